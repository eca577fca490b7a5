/-
  The statement DhMuls: the walk.
-/
import Derived.Test.YtodimbmjbjioaaaLaw07a
import Derived.Test.YtodimbmjbjioaaaRef07b
namespace Go.Proofs.Ytodimbmjbjioaaa
open Go.RowKit
set_option linter.unusedVariables false
set_option linter.unusedSimpArgs false

set_option maxRecDepth 100000 in
set_option maxHeartbeats 4000000 in
theorem muls_any (A : Option Addr) (xs : List UInt8) (c : Nat) (A' : Option Addr) (ys : List UInt8) (c' : Nat) (w : World) (hS : Sq w w.heap.size A c (bvs xs)) (hS' : Sq w w.heap.size A' c' (bvs ys)) :
    Calls Try.prog 3 #[.slice A xs.length c, .slice A' ys.length c'] w fun e w' => e = .returned (.bool true) ∧ Below w.heap.size w w' := by
  have HS := hid hS; have HS' := hid hS'
  have HAL := hid alive7_any
  clear hS hS'
  by_cases hx : 100 < xs.length
  · have hxi : (100 : Int) < (xs.length : Int) := by omega
    clear hx
    go_enter Try.func3, Try.ntmps3
    go_wp2_with fail
    refine (HAL.out _).mono ?_
    rintro e w1 ⟨rfl, hb1⟩
    go_wp2
    go_ret
    exact ⟨rfl, hb1⟩
  have hxi : ¬ (100 : Int) < (xs.length : Int) := by omega
  by_cases hy : 100 < ys.length
  · have hyi : (100 : Int) < (ys.length : Int) := by omega
    clear hx hy
    go_enter Try.func3, Try.ntmps3
    go_wp2_with fail
    refine (HAL.out _).mono ?_
    rintro e w1 ⟨rfl, hb1⟩
    go_wp2
    go_ret
    exact ⟨rfl, hb1⟩
  have hyi : ¬ (100 : Int) < (ys.length : Int) := by omega
  have HC := hid (fun W h => DhClamp_e A xs c W h (by omega))
  have HR := hid (fun W h => Clamp7_any A xs c W h (by omega))
  have HSM : Hid (∀ (W : World) B B' A1 c1 A2 c2, Lie W B A1 (bvs (clampB xs)) → Lie W B' A2 (bvs (clampB xs)) → Calls Try.prog 7 #[.slice A1 32 c1, .slice A2 32 c2] W fun e w' => e = .returned (.bool true) ∧ ∃ n, w' = W.drewN n) := hid fun W B B' A1 c1 A2 c2 h h' => by
    have h := Same_any A1 (clampB xs) c1 A2 (clampB xs) c2 W B B' h h' (by rw [clampB_length]; omega)
    rw [clampB_length, beq_self_eq_true] at h
    exact h
  have hmk := mk32
  by_cases hx32 : xs.length = 32
  · by_cases hy32 : ys.length = 32
    · have HM := hid (fun W h h' => DhMul_e A xs c A' ys c' W h h' (by omega) (by omega) hx32 hy32)
      have HRM := hid (fun W h h' => Mul7_any A xs c A' ys c' W h h' (by omega) (by omega))
      have e0 : leB 32 (ladOut (uF ys) (leN (clampB xs))).val = dhV xs ys := rfl
      rw [e0, hx32, hy32] at HRM
      obtain ⟨v, hv⟩ : ∃ v, v = dhV xs ys := ⟨_, rfl⟩
      have hvl : v.length = 32 := by rw [hv]; exact dhV_length xs ys
      rw [← hv] at HRM HM
      have HSV : Hid (∀ (W : World) B B' A1 c1 A2 c2, Lie W B A1 (bvs v) → Lie W B' A2 (bvs v) → Calls Try.prog 7 #[.slice A1 32 c1, .slice A2 32 c2] W fun e w' => e = .returned (.bool true) ∧ ∃ n, w' = W.drewN n) := hid fun W B B' A1 c1 A2 c2 h h' => by
        have h := Same_any A1 v c1 A2 v c2 W B B' h h' (by rw [hvl]; omega)
        rw [hvl, beq_self_eq_true] at h
        exact h
      have HSZ : Hid (∀ (W : World) B B' A1 c1 A2 c2, Lie W B A1 (bvs v) → Lie W B' A2 (bvs z32) → Calls Try.prog 7 #[.slice A1 32 c1, .slice A2 32 c2] W fun e w' => e = .returned (.bool (v == z32)) ∧ ∃ n, w' = W.drewN n) := hid fun W B B' A1 c1 A2 c2 h h' => by
        have h := Same_any A1 v c1 A2 z32 c2 W B B' h h' (by rw [hvl]; omega)
        rw [hvl, z32_length] at h
        exact h
      have HVL := hid hvl
      by_cases hz : v = z32
      · have HSH := hid (fun W h h' => DhShared_zero A xs c A' ys c' W h h' (by omega) (by omega) hx32 hy32 (by rw [← hv]; exact hz))
        have hze : (v == z32) = true := by rw [hz]; exact beq_self_eq_true _
        rw [hze] at HSZ
        rw [hx32, hy32]
        rw [hx32] at HC HR
        clear hxi hyi hv hvl hz hze e0 hx32 hy32 hx hy
        go_enter Try.func3, Try.ntmps3
        go_wp2_with fail
        refine (HAL.out _).mono ?_
        rintro e w1 ⟨rfl, hb1⟩
        have HB1 := hid hb1; have HS1 := hid (HS.out.on6 hb1); have HS1' := hid (HS'.out.on6 hb1)
        clear hb1 HS HS' HAL
        go_wp2_with fail
        refine (HC.out _ HS1.out).mono ?_
        rintro e w2 ⟨A2, c2, rfl, hS2, hb2⟩
        have HB2 := hid (HB1.out.trans (hb2.mono HB1.out.size)); have HS2 := hid (HS1.out.on6 hb2); have HS2' := hid (HS1'.out.on6 hb2); have HC2 := hid hS2
        clear hb2 hS2 HS1 HS1' HB1 HC
        go_wp2_with fail
        refine (HR.out _ HS2.out).mono ?_
        rintro e w3 ⟨A3, c3, rfl, hS3, hb3⟩
        have HB3 := hid (HB2.out.trans (hb3.mono HB2.out.size)); have HS3 := hid (HS2.out.on6 hb3); have HS3' := hid (HS2'.out.on6 hb3); have HC3 := hid (HC2.out.on6 hb3); have HR3 := hid hS3
        clear hb3 hS3 HS2 HS2' HB2 HC2 HR
        go_wp2_with fail
        refine (HSM.out _ _ _ _ _ _ _ HC3.out.lie HR3.out.lie).mono ?_
        rintro e w4 ⟨rfl, n4, rfl⟩
        have HB4 := hid (belowB_drewN HB3.out n4)
        obtain ⟨w4, hw4⟩ : ∃ w4, w4 = w3.drewN n4 := ⟨_, rfl⟩
        have HS4 : Hid (Sq w4 w4.heap.size A c (bvs xs)) := by rw [hw4]; exact HS3
        have HS4' : Hid (Sq w4 w4.heap.size A' c' (bvs ys)) := by rw [hw4]; exact HS3'
        rw [← hw4] at HB4 ⊢
        clear hw4 HC3 HR3 HS3 HS3' HB3 HSM
        go_wp2_with fail
        refine (HM.out _ HS4.out HS4'.out).mono ?_
        rintro e w5 ⟨A5, c5, rfl, hS5, -, hb5⟩
        have HB5 := hid (HB4.out.trans (hb5.mono HB4.out.size)); have HS5 := hid (HS4.out.on6 hb5); have HS5' := hid (HS4'.out.on6 hb5); have HV5 := hid hS5
        clear hb5 hS5 HS4 HS4' HB4 HM
        go_wp2_with fail
        refine (HSH.out _ HS5.out HS5'.out).mono ?_
        rintro e w6 ⟨A6, c6, rfl, hb6⟩
        have HB6 := hid (HB5.out.trans (hb6.mono HB5.out.size)); have HS6 := hid (HS5.out.on6 hb6); have HS6' := hid (HS5'.out.on6 hb6); have HV6 := hid (HV5.out.on6 hb6)
        clear hb6 HS5 HS5' HB5 HV5 HSH
        go_wp2_with fail
        refine (HRM.out _ HS6.out HS6'.out).mono ?_
        rintro e w7 ⟨v7, rfl, ho7, hb7⟩
        obtain ⟨A7, c7, rfl, hs7⟩ := own_sl ho7
        rw [HVL.out]
        have HB7 := hid (HB6.out.trans (hb7.mono HB6.out.size)); have HV7 := hid (HV6.out.on6 hb7); have HR7 := hid hs7.sq
        have hba : Below w7.heap.size w7 (w7.alloc (.cells zR 5)) := (Below.refl _ _).alloc (Nat.le_refl _) _
        have HB8 := hid (HB7.out.trans (hba.mono HB7.out.size)); have HV8 := hid (HV7.out.on6 hba); have HR8 := hid (HR7.out.on6 hba); have HZ8 := hid (zR_sq w7)
        clear hb7 ho7 hs7 hba HS6 HS6' HB6 HV6 HB7 HV7 HR7 HRM
        go_wp2_with fail
        refine (HSZ.out _ _ _ _ _ _ _ HR8.out.lie HZ8.out.lie).mono ?_
        rintro e w9 ⟨rfl, n9, rfl⟩
        have HB9 := hid (belowB_drewN HB8.out n9)
        obtain ⟨w9, hw9⟩ : ∃ w9, w9 = (w7.alloc (.cells zR 5)).drewN n9 := ⟨_, rfl⟩
        have HV9 : Hid (Sq w9 w9.heap.size A5 c5 (bvs v)) := by rw [hw9]; exact HV8
        have HR9 : Hid (Sq w9 w9.heap.size A7 c7 (bvs v)) := by rw [hw9]; exact HR8
        rw [← hw9] at HB9 ⊢
        clear hw9 HB8 HV8 HR8 HZ8 HSZ
        go_wp2_with fail
        refine (HSV.out _ _ _ _ _ _ _ HV9.out.lie HR9.out.lie).mono ?_
        rintro e wA ⟨rfl, nA, rfl⟩
        have HBA := hid (belowB_drewN HB9.out nA)
        clear HB9 HV9 HR9
        go_wp2
        go_ret
        exact ⟨rfl, HBA.out⟩
      · have HSH := hid (fun W h h' => DhShared_e A xs c A' ys c' W h h' (by omega) (by omega) hx32 hy32 (by rw [← hv]; exact hz))
        rw [← hv] at HSH
        have hze : (v == z32) = false := by rw [beq_eq_false_iff_ne]; exact hz
        rw [hze] at HSZ
        rw [hx32, hy32]
        rw [hx32] at HC HR
        clear hxi hyi hv hvl hz hze e0 hx32 hy32 hx hy
        go_enter Try.func3, Try.ntmps3
        go_wp2_with fail
        refine (HAL.out _).mono ?_
        rintro e w1 ⟨rfl, hb1⟩
        have HB1 := hid hb1; have HS1 := hid (HS.out.on6 hb1); have HS1' := hid (HS'.out.on6 hb1)
        clear hb1 HS HS' HAL
        go_wp2_with fail
        refine (HC.out _ HS1.out).mono ?_
        rintro e w2 ⟨A2, c2, rfl, hS2, hb2⟩
        have HB2 := hid (HB1.out.trans (hb2.mono HB1.out.size)); have HS2 := hid (HS1.out.on6 hb2); have HS2' := hid (HS1'.out.on6 hb2); have HC2 := hid hS2
        clear hb2 hS2 HS1 HS1' HB1 HC
        go_wp2_with fail
        refine (HR.out _ HS2.out).mono ?_
        rintro e w3 ⟨A3, c3, rfl, hS3, hb3⟩
        have HB3 := hid (HB2.out.trans (hb3.mono HB2.out.size)); have HS3 := hid (HS2.out.on6 hb3); have HS3' := hid (HS2'.out.on6 hb3); have HC3 := hid (HC2.out.on6 hb3); have HR3 := hid hS3
        clear hb3 hS3 HS2 HS2' HB2 HC2 HR
        go_wp2_with fail
        refine (HSM.out _ _ _ _ _ _ _ HC3.out.lie HR3.out.lie).mono ?_
        rintro e w4 ⟨rfl, n4, rfl⟩
        have HB4 := hid (belowB_drewN HB3.out n4)
        obtain ⟨w4, hw4⟩ : ∃ w4, w4 = w3.drewN n4 := ⟨_, rfl⟩
        have HS4 : Hid (Sq w4 w4.heap.size A c (bvs xs)) := by rw [hw4]; exact HS3
        have HS4' : Hid (Sq w4 w4.heap.size A' c' (bvs ys)) := by rw [hw4]; exact HS3'
        rw [← hw4] at HB4 ⊢
        clear hw4 HC3 HR3 HS3 HS3' HB3 HSM
        go_wp2_with fail
        refine (HM.out _ HS4.out HS4'.out).mono ?_
        rintro e w5 ⟨A5, c5, rfl, hS5, -, hb5⟩
        have HB5 := hid (HB4.out.trans (hb5.mono HB4.out.size)); have HS5 := hid (HS4.out.on6 hb5); have HS5' := hid (HS4'.out.on6 hb5); have HV5 := hid hS5
        clear hb5 hS5 HS4 HS4' HB4 HM
        go_wp2_with fail
        refine (HSH.out _ HS5.out HS5'.out).mono ?_
        rintro e w6 ⟨A6, c6, rfl, hS6, -, hb6⟩
        have HB6 := hid (HB5.out.trans (hb6.mono HB5.out.size)); have HS6 := hid (HS5.out.on6 hb6); have HS6' := hid (HS5'.out.on6 hb6); have HV6 := hid (HV5.out.on6 hb6); have HW6 := hid hS6
        clear hb6 hS6 HS5 HS5' HB5 HV5 HSH
        go_wp2_with fail
        refine (HRM.out _ HS6.out HS6'.out).mono ?_
        rintro e w7 ⟨v7, rfl, ho7, hb7⟩
        obtain ⟨A7, c7, rfl, hs7⟩ := own_sl ho7
        rw [HVL.out]
        have HB7 := hid (HB6.out.trans (hb7.mono HB6.out.size)); have HV7 := hid (HV6.out.on6 hb7); have HR7 := hid hs7.sq; have HW7 := hid (HW6.out.on6 hb7)
        have hba : Below w7.heap.size w7 (w7.alloc (.cells zR 5)) := (Below.refl _ _).alloc (Nat.le_refl _) _
        have HB8 := hid (HB7.out.trans (hba.mono HB7.out.size)); have HV8 := hid (HV7.out.on6 hba); have HR8 := hid (HR7.out.on6 hba); have HZ8 := hid (zR_sq w7); have HW8 := hid (HW7.out.on6 hba)
        clear hb7 ho7 hs7 hba HS6 HS6' HB6 HV6 HB7 HV7 HR7 HRM HW6 HW7
        go_wp2_with fail
        refine (HSZ.out _ _ _ _ _ _ _ HR8.out.lie HZ8.out.lie).mono ?_
        rintro e w9 ⟨rfl, n9, rfl⟩
        have HB9 := hid (belowB_drewN HB8.out n9)
        obtain ⟨w9, hw9⟩ : ∃ w9, w9 = (w7.alloc (.cells zR 5)).drewN n9 := ⟨_, rfl⟩
        have HV9 : Hid (Sq w9 w9.heap.size A5 c5 (bvs v)) := by rw [hw9]; exact HV8
        have HR9 : Hid (Sq w9 w9.heap.size A7 c7 (bvs v)) := by rw [hw9]; exact HR8
        have HW9 : Hid (Sq w9 w9.heap.size A6 c6 (bvs v)) := by rw [hw9]; exact HW8
        rw [← hw9] at HB9 ⊢
        clear hw9 HB8 HV8 HR8 HZ8 HSZ HW8
        go_wp2_with fail
        refine (HSV.out _ _ _ _ _ _ _ HV9.out.lie HR9.out.lie).mono ?_
        rintro e wA ⟨rfl, nA, rfl⟩
        have HBA := hid (belowB_drewN HB9.out nA)
        obtain ⟨wB, hwB⟩ : ∃ wB, wB = w9.drewN nA := ⟨_, rfl⟩
        have HRB : Hid (Sq wB wB.heap.size A7 c7 (bvs v)) := by rw [hwB]; exact HR9
        have HWB : Hid (Sq wB wB.heap.size A6 c6 (bvs v)) := by rw [hwB]; exact HW9
        rw [← hwB] at HBA ⊢
        clear hwB HB9 HV9 HR9 HW9
        go_wp2_with fail
        refine (HSV.out _ _ _ _ _ _ _ HWB.out.lie HRB.out.lie).mono ?_
        rintro e wC ⟨rfl, nC, rfl⟩
        have HBC := hid (belowB_drewN HBA.out nC)
        clear HBA HRB HWB
        go_wp2
        go_ret
        exact ⟨rfl, HBC.out⟩
    · have HM := hid (fun W h h' => DhMul_form A xs c A' ys c' W h h' (by omega) (by omega) hx32 hy32)
      have HSH := hid (fun W h h' => DhShared_form A xs c A' ys c' W h h' (by omega) (by omega) hx32 hy32)
      have hyn : ((ys.length : Int) != 32) = true := by rw [bne_iff_ne]; omega
      rw [hx32]
      rw [hx32] at HC HR
      clear hxi hy32 hx32 hx hy
      go_enter Try.func3, Try.ntmps3
      go_wp2_with fail
      refine (HAL.out _).mono ?_
      rintro e w1 ⟨rfl, hb1⟩
      have HB1 := hid hb1; have HS1 := hid (HS.out.on6 hb1); have HS1' := hid (HS'.out.on6 hb1)
      clear hb1 HS HS' HAL
      go_wp2_with fail
      refine (HC.out _ HS1.out).mono ?_
      rintro e w2 ⟨A2, c2, rfl, hS2, hb2⟩
      have HB2 := hid (HB1.out.trans (hb2.mono HB1.out.size)); have HS2 := hid (HS1.out.on6 hb2); have HS2' := hid (HS1'.out.on6 hb2); have HC2 := hid hS2
      clear hb2 hS2 HS1 HS1' HB1 HC
      go_wp2_with fail
      refine (HR.out _ HS2.out).mono ?_
      rintro e w3 ⟨A3, c3, rfl, hS3, hb3⟩
      have HB3 := hid (HB2.out.trans (hb3.mono HB2.out.size)); have HS3 := hid (HS2.out.on6 hb3); have HS3' := hid (HS2'.out.on6 hb3); have HC3 := hid (HC2.out.on6 hb3); have HR3 := hid hS3
      clear hb3 hS3 HS2 HS2' HB2 HC2 HR
      go_wp2_with fail
      refine (HSM.out _ _ _ _ _ _ _ HC3.out.lie HR3.out.lie).mono ?_
      rintro e w4 ⟨rfl, n4, rfl⟩
      have HB4 := hid (belowB_drewN HB3.out n4)
      obtain ⟨w4, hw4⟩ : ∃ w4, w4 = w3.drewN n4 := ⟨_, rfl⟩
      have HS4 : Hid (Sq w4 w4.heap.size A c (bvs xs)) := by rw [hw4]; exact HS3
      have HS4' : Hid (Sq w4 w4.heap.size A' c' (bvs ys)) := by rw [hw4]; exact HS3'
      rw [← hw4] at HB4 ⊢
      clear hw4 HC3 HR3 HS3 HS3' HB3 HSM
      go_wp2_with fail
      refine (HM.out _ HS4.out HS4'.out).mono ?_
      rintro e w5 ⟨A5, c5, rfl, hb5⟩
      have HB5 := hid (HB4.out.trans (hb5.mono HB4.out.size)); have HS5 := hid (HS4.out.on6 hb5); have HS5' := hid (HS4'.out.on6 hb5)
      clear hb5 HS4 HS4' HB4 HM
      go_wp2_with fail
      refine (HSH.out _ HS5.out HS5'.out).mono ?_
      rintro e w6 ⟨A6, c6, rfl, hb6⟩
      have HB6 := hid (HB5.out.trans (hb6.mono HB5.out.size))
      clear hb6 HS5 HS5' HB5 HSH
      go_wp2
      go_ret
      exact ⟨rfl, HB6.out⟩
  · have HM := hid (fun W h h' => DhMul_arg A xs c A' ys c' W h h' (by omega) (by omega) hx32)
    have HSH := hid (fun W h h' => DhShared_arg A xs c A' ys c' W h h' (by omega) (by omega) hx32)
    have hxn : ((xs.length : Int) != 32) = true := by rw [bne_iff_ne]; omega
    clear hx32 hx hy
    go_enter Try.func3, Try.ntmps3
    go_wp2_with fail
    refine (HAL.out _).mono ?_
    rintro e w1 ⟨rfl, hb1⟩
    have HB1 := hid hb1; have HS1 := hid (HS.out.on6 hb1); have HS1' := hid (HS'.out.on6 hb1)
    clear hb1 HS HS' HAL
    go_wp2_with fail
    refine (HC.out _ HS1.out).mono ?_
    rintro e w2 ⟨A2, c2, rfl, hS2, hb2⟩
    have HB2 := hid (HB1.out.trans (hb2.mono HB1.out.size)); have HS2 := hid (HS1.out.on6 hb2); have HS2' := hid (HS1'.out.on6 hb2); have HC2 := hid hS2
    clear hb2 hS2 HS1 HS1' HB1 HC
    go_wp2_with fail
    refine (HR.out _ HS2.out).mono ?_
    rintro e w3 ⟨A3, c3, rfl, hS3, hb3⟩
    have HB3 := hid (HB2.out.trans (hb3.mono HB2.out.size)); have HS3 := hid (HS2.out.on6 hb3); have HS3' := hid (HS2'.out.on6 hb3); have HC3 := hid (HC2.out.on6 hb3); have HR3 := hid hS3
    clear hb3 hS3 HS2 HS2' HB2 HC2 HR
    go_wp2_with fail
    refine (HSM.out _ _ _ _ _ _ _ HC3.out.lie HR3.out.lie).mono ?_
    rintro e w4 ⟨rfl, n4, rfl⟩
    have HB4 := hid (belowB_drewN HB3.out n4)
    obtain ⟨w4, hw4⟩ : ∃ w4, w4 = w3.drewN n4 := ⟨_, rfl⟩
    have HS4 : Hid (Sq w4 w4.heap.size A c (bvs xs)) := by rw [hw4]; exact HS3
    have HS4' : Hid (Sq w4 w4.heap.size A' c' (bvs ys)) := by rw [hw4]; exact HS3'
    rw [← hw4] at HB4 ⊢
    clear hw4 HC3 HR3 HS3 HS3' HB3 HSM
    go_wp2_with fail
    refine (HM.out _ HS4.out HS4'.out).mono ?_
    rintro e w5 ⟨A5, c5, rfl, hb5⟩
    have HB5 := hid (HB4.out.trans (hb5.mono HB4.out.size)); have HS5 := hid (HS4.out.on6 hb5); have HS5' := hid (HS4'.out.on6 hb5)
    clear hb5 HS4 HS4' HB4 HM
    go_wp2_with fail
    refine (HSH.out _ HS5.out HS5'.out).mono ?_
    rintro e w6 ⟨A6, c6, rfl, hb6⟩
    have HB6 := hid (HB5.out.trans (hb6.mono HB5.out.size))
    clear hb6 HS5 HS5' HB5 HSH
    go_wp2
    go_ret
    exact ⟨rfl, HB6.out⟩
end Go.Proofs.Ytodimbmjbjioaaa
