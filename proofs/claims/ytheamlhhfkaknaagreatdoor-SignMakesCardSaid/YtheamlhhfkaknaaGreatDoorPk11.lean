/-
  Texts of this claim in one file: Big6.
-/
import Derived.Test.YtheamlhhfkaknaaGreatDoorPk0
import Derived.Test.YtheamlhhfkaknaaGreatDoorPk6
section
namespace Go.Proofs.YtheamlhhfkaknaaGreatDoor
open Go.RowKit
set_option linter.unusedVariables false
set_option linter.unusedSimpArgs false
set_option maxRecDepth 100000 in
set_option maxHeartbeats 3200000 in
theorem Root2_any (n : Nat) (w : World) (hn : n ≤ 1048576) :
    Calls Tryz.prog 60 #[.int .u64 (n : Int), .int .i64 2] w fun e w' => e = .returned (.int .u64 ((rbits (n * 2 ^ (64 * 2)) 2 0 70 % 18446744073709551616 : Nat) : Int)) ∧ Below w.heap.size w w' := by
  have bl : ∀ N, N < 2 ^ 240 → (dg N).length ≤ 1073741824 := fun N h => Nat.le_trans ((dg_length_le N 16).2 (Nat.lt_of_lt_of_le h (by decide))) (by omega)
  obtain ⟨T, hT⟩ : ∃ T, T = n * 2 ^ (64 * 2) := ⟨_, rfl⟩
  have hTb : T < 2 ^ 240 := by rw [hT]; exact Nat.lt_of_le_of_lt (Nat.mul_le_mul_right _ hn) (by decide)
  obtain ⟨fin, hfin⟩ : ∃ f, f = rbits T 2 0 70 := ⟨_, rfl⟩
  rw [← hT, ← hfin]
  obtain ⟨m, hm⟩ : ∃ m, m = fin % 18446744073709551616 := ⟨_, rfl⟩
  rw [← hm]
  have HM := hid hm
  have HBL := hid bl; have HT := hid hT; have HTB := hid hTb; have HFIN := hid hfin
  have HNUM := hid (Num_any n w (by omega))
  clear bl hT hTb hfin hm
  go_enter Tryz.func60, Tryz.ntmps60
  go_wp2_with fail
  refine HNUM.out.mono ?_
  rintro e wa ⟨Aa, ca, rfl, hSa, hba⟩
  have HPOW := hid (Pow_any (64 * 2) wa (by omega))
  have HSA := hid hSa; have HBA := hid hba
  clear hSa hba HNUM
  go_wp2_with fail
  refine HPOW.out.mono ?_
  rintro e wb ⟨Ab, cb, rfl, hSb, hbb⟩
  have HMUL := Mul_any n (2 ^ (64 * 2)) Aa Ab ca cb wb ((HSA.out.below hbb).more hbb.size) hSb (HBL.out _ (Nat.lt_of_le_of_lt hn (by decide))) (HBL.out _ (by decide))
  rw [← HT.out] at HMUL
  have HMUL := hid HMUL; have HBB := hid (HBA.out.trans (hbb.mono HBA.out.size))
  clear hSb hbb HPOW HSA HBA
  go_wp2_with fail
  refine HMUL.out.mono ?_
  rintro e w1 ⟨AT, cT, rfl, hST, hbT⟩
  have HST := hid hST; have HB1 := hid (HBB.out.trans (hbT.mono HBB.out.size))
  clear hST hbT HMUL HBB
  go_wp2
  go_loopg [6, 7] 70 (fun g v i wr => ∃ (k x : Nat) (A6 : Option Addr) (c6 : Nat), g = k ∧ i = .int .i64 ((k : Int) - 1) ∧ v = .slice A6 (dg x).length c6 ∧ Sq wr wr.heap.size A6 c6 (ivs (dg x)) ∧ rbits T 2 x k = fin ∧ x + 2 ^ k ≤ 2 ^ 70 ∧ k ≤ 70 ∧ Below w1.heap.size w1 wr)
  case atStart => exact ⟨70, 0, none, 0, rfl, rfl, by rw [dg_zero]; rfl, by rw [dg_zero]; exact Sq.nil, HFIN.out.symm, by omega, by omega, Below.refl _ _⟩
  case round =>
    obtain ⟨k, x, A6, c6, hgk, rfl, rfl, hS6, hr, hx, hk, hb⟩ := hrel
    obtain ⟨w3, rfl⟩ : ∃ w3 : World, w3 = wr := ⟨_, rfl⟩
    have HGK := hid hgk; have HS6 := hid hS6; have HR := hid hr; have HX := hid hx; have HB := hid hb
    clear hgk hS6 hr hx hb
    rcases k with _ | i
    · have h0 : ¬ (0 : Int) ≤ ((0 : Nat) : Int) - 1 := by omega
      have hxf : x = fin := by have h := HR.out; rw [rbits] at h; exact h
      subst hxf
      have hxb : x < 2 ^ 240 := Nat.lt_of_lt_of_le (Nat.lt_of_lt_of_le (Nat.lt_succ_self x) HX.out) (by decide)
      have HXB := hid hxb
      have HPOW := hid (Pow_any 64 w3 (by omega))
      clear HR HX HGK hxb HFIN
      go_wp2_with fail
      refine HPOW.out.mono ?_
      rintro e w4 ⟨A8, c8, rfl, hS8, hb4⟩
      have HDIV := hid (Div_any x (2 ^ 64) A6 A8 c6 c8 w4 ((HS6.out.below hb4).more hb4.size) hS8 (Nat.le_trans ((dg_length_le x 16).2 (Nat.lt_of_lt_of_le HXB.out (by decide))) (by omega)) (Nat.le_trans ((dg_length_le _ 16).2 (by decide)) (by omega)) (by decide))
      have HB4 := hid (HB.out.trans (hb4.mono HB.out.size))
      clear hS8 hb4 HPOW HS6 HB
      go_wp2_with fail
      refine HDIV.out.mono ?_
      rintro e w5 ⟨A1, c1, A2, c2, rfl, hS1, hS2, hb5⟩
      have hm := HM.out
      rw [show x % 2 ^ 64 = m by rw [hm]] at hS2
      rw [show x % 2 ^ 64 = m by rw [hm]]
      have HLOW := hid (Low_any m A2 c2 w5.heap.size w5 hS2 (by rw [hm]; exact Nat.mod_lt _ (by decide)))
      have HB5 := hid (HB1.out.trans ((HB4.out.trans (hb5.mono HB4.out.size)).mono HB1.out.size))
      clear hS1 hS2 hb5 HDIV hm
      go_wp2_with fail
      refine HLOW.out.mono ?_
      rintro e w6 ⟨rfl, rfl⟩
      go_wp2
      go_ret
      exact ⟨rfl, HB5.out⟩
    · have e1 : ((i + 1 : Nat) : Int) - 1 = (i : Int) := by omega
      rw [e1]
      have h0 : (0 : Int) ≤ (i : Int) := by omega
      obtain ⟨y, hy⟩ : ∃ y, y = x + 2 ^ i := ⟨_, rfl⟩
      have hp2 : 2 ^ (i + 1) = 2 * 2 ^ i := by rw [Nat.pow_succ, Nat.mul_comm]
      have hx := HX.out
      rw [hp2] at hx
      have h270 : (2 : Nat) ^ 70 < 2 ^ 71 := by decide
      have hyb70 : y ≤ 2 ^ 70 := by omega
      have hyb : y < 2 ^ 240 := Nat.lt_of_le_of_lt hyb70 (by decide)
      have hy2b : y * y < 2 ^ 240 := Nat.lt_of_le_of_lt (Nat.mul_le_mul hyb70 hyb70) (by decide)
      have hxb : x < 2 ^ 240 := by omega
      have hib : 2 ^ i < 2 ^ 240 := by omega
      have hpy : y ^ 2 = y * y := by rw [Nat.pow_two]
      have hrn : rbits T 2 (if y * y ≤ T then y else x) i = fin := by
        have h := HR.out
        rw [rbits, ← hy, hpy] at h
        exact h
      have hxn : x + 2 ^ i ≤ 2 ^ 70 ∧ y + 2 ^ i ≤ 2 ^ 70 := by omega
      have HRN := hid hrn; have HXN := hid hxn; have HY := hid hy; have HYB := hid hyb; have HY2B := hid hy2b
      have HPOW := hid (Pow_any i w3 (by omega))
      have HXBL := hid (HBL.out x hxb); have HIBL := hid (HBL.out _ hib)
      clear hy hp2 hx h270 hyb70 hyb hy2b hxb hib hpy hrn hxn HR HX e1
      go_wp2_with fail
      refine HPOW.out.mono ?_
      rintro e wc ⟨Ac, cc, rfl, hSc, hbc⟩
      have HADD := Add_any x (2 ^ i) A6 Ac c6 cc wc ((HS6.out.below hbc).more hbc.size) hSc HXBL.out HIBL.out
      rw [← HY.out] at HADD
      have HADD := hid HADD; have HBC := hid hbc
      clear hSc hbc HPOW
      go_wp2_with fail
      refine HADD.out.mono ?_
      rintro e wd ⟨A8, c8, rfl, hS8, hbd⟩
      have hb3d : Below w3.heap.size w3 wd := HBC.out.trans (hbd.mono HBC.out.size)
      have HM2 := hid (Mul_any y y A8 A8 c8 c8 wd hS8 hS8 (HBL.out _ HYB.out) (HBL.out _ HYB.out))
      have HS8 := hid hS8; have HB3D := hid hb3d
      clear hS8 hbd hb3d HADD HBC
      go_wp2_with fail
      refine HM2.out.mono ?_
      rintro e w4 ⟨A9, c9, rfl, hS9, hb4⟩
      have hb34 : Below wd.heap.size wd w4 := hb4
      have hB4 : Below w3.heap.size w3 w4 := HB3D.out.trans (hb4.mono HB3D.out.size)
      have bl := HBL.out; have hyb := HYB.out; have hy2b := HY2B.out
      obtain ⟨w5, rfl⟩ : ∃ w5, w5 = w4 := ⟨_, rfl⟩
      obtain ⟨Az, rfl⟩ : ∃ Az, Az = A9 := ⟨_, rfl⟩
      obtain ⟨cz, rfl⟩ : ∃ cz, cz = c9 := ⟨_, rfl⟩
      have hSz := hS9
      have hb35 := hb34
      have hB5 := hB4
      clear hS9 hb4 hb34 hB4 HM2
      clear bl hyb hy2b
      have hB1 : Below w1.heap.size w1 w5 := HB.out.trans (hB5.mono HB.out.size)
      have HLESS := hid (Less_any T (y * y) AT Az cT cz w1.heap.size w5.heap.size w5 (HST.out.below hB1) hSz (Nat.le_trans (HBL.out T HTB.out) (by omega)))
      have HS8' := hid ((HS8.out.below hb35).more hb35.size)
      have HS6' := hid ((HS6.out.below hB5).more hB5.size)
      have HBN := hid hB1
      clear hSz hb35 hB5 hB1 HS8 HS6
      go_wp2_with fail
      refine HLESS.out.mono ?_
      rintro e w7 ⟨rfl, n7, rfl⟩
      have HB7 := hid (belowB_drewN HBN.out n7)
      clear HLESS
      have hgk := HGK.out
      have f5 : IntKind.i64.wrap ((i : Int) - 1) = (i : Int) - 1 := IntWalk.i64_in _ (by omega)
      by_cases hc : T < y * y
      · have hd : decide (T < y * y) = true := decide_eq_true hc
        have hr := HRN.out
        rw [if_neg (by omega)] at hr
        have HR2 := hid hr
        clear hr hc hgk
        rw [hd]
        clear hd
        go_wp2
        have hgk := HGK.out
        go_roundg i
        case measure => omega
        case rel => exact ⟨i, x, A6, c6, rfl, rfl, rfl, HS6'.out, HR2.out, HXN.out.1, by omega, HB7.out⟩
      · have hd : decide (T < y * y) = false := decide_eq_false hc
        have hr := HRN.out
        rw [if_pos (by omega)] at hr
        have HR2 := hid hr
        clear hr hc hgk
        rw [hd]
        clear hd
        go_wp2
        have hgk := HGK.out
        go_roundg i
        case measure => omega
        case rel => exact ⟨i, y, A8, c8, rfl, rfl, rfl, HS8'.out, HR2.out, HXN.out.2, by omega, HB7.out⟩
set_option maxRecDepth 100000 in
set_option maxHeartbeats 3200000 in
theorem Root3_any (n : Nat) (w : World) (hn : n ≤ 1048576) :
    Calls Tryz.prog 60 #[.int .u64 (n : Int), .int .i64 3] w fun e w' => e = .returned (.int .u64 ((rbits (n * 2 ^ (64 * 3)) 3 0 70 % 18446744073709551616 : Nat) : Int)) ∧ Below w.heap.size w w' := by
  have bl : ∀ N, N < 2 ^ 240 → (dg N).length ≤ 1073741824 := fun N h => Nat.le_trans ((dg_length_le N 16).2 (Nat.lt_of_lt_of_le h (by decide))) (by omega)
  obtain ⟨T, hT⟩ : ∃ T, T = n * 2 ^ (64 * 3) := ⟨_, rfl⟩
  have hTb : T < 2 ^ 240 := by rw [hT]; exact Nat.lt_of_le_of_lt (Nat.mul_le_mul_right _ hn) (by decide)
  obtain ⟨fin, hfin⟩ : ∃ f, f = rbits T 3 0 70 := ⟨_, rfl⟩
  rw [← hT, ← hfin]
  obtain ⟨m, hm⟩ : ∃ m, m = fin % 18446744073709551616 := ⟨_, rfl⟩
  rw [← hm]
  have HM := hid hm
  have HBL := hid bl; have HT := hid hT; have HTB := hid hTb; have HFIN := hid hfin
  have HNUM := hid (Num_any n w (by omega))
  clear bl hT hTb hfin hm
  go_enter Tryz.func60, Tryz.ntmps60
  go_wp2_with fail
  refine HNUM.out.mono ?_
  rintro e wa ⟨Aa, ca, rfl, hSa, hba⟩
  have HPOW := hid (Pow_any (64 * 3) wa (by omega))
  have HSA := hid hSa; have HBA := hid hba
  clear hSa hba HNUM
  go_wp2_with fail
  refine HPOW.out.mono ?_
  rintro e wb ⟨Ab, cb, rfl, hSb, hbb⟩
  have HMUL := Mul_any n (2 ^ (64 * 3)) Aa Ab ca cb wb ((HSA.out.below hbb).more hbb.size) hSb (HBL.out _ (Nat.lt_of_le_of_lt hn (by decide))) (HBL.out _ (by decide))
  rw [← HT.out] at HMUL
  have HMUL := hid HMUL; have HBB := hid (HBA.out.trans (hbb.mono HBA.out.size))
  clear hSb hbb HPOW HSA HBA
  go_wp2_with fail
  refine HMUL.out.mono ?_
  rintro e w1 ⟨AT, cT, rfl, hST, hbT⟩
  have HST := hid hST; have HB1 := hid (HBB.out.trans (hbT.mono HBB.out.size))
  clear hST hbT HMUL HBB
  go_wp2
  go_loopg [6, 7] 70 (fun g v i wr => ∃ (k x : Nat) (A6 : Option Addr) (c6 : Nat), g = k ∧ i = .int .i64 ((k : Int) - 1) ∧ v = .slice A6 (dg x).length c6 ∧ Sq wr wr.heap.size A6 c6 (ivs (dg x)) ∧ rbits T 3 x k = fin ∧ x + 2 ^ k ≤ 2 ^ 70 ∧ k ≤ 70 ∧ Below w1.heap.size w1 wr)
  case atStart => exact ⟨70, 0, none, 0, rfl, rfl, by rw [dg_zero]; rfl, by rw [dg_zero]; exact Sq.nil, HFIN.out.symm, by omega, by omega, Below.refl _ _⟩
  case round =>
    obtain ⟨k, x, A6, c6, hgk, rfl, rfl, hS6, hr, hx, hk, hb⟩ := hrel
    obtain ⟨w3, rfl⟩ : ∃ w3 : World, w3 = wr := ⟨_, rfl⟩
    have HGK := hid hgk; have HS6 := hid hS6; have HR := hid hr; have HX := hid hx; have HB := hid hb
    clear hgk hS6 hr hx hb
    rcases k with _ | i
    · have h0 : ¬ (0 : Int) ≤ ((0 : Nat) : Int) - 1 := by omega
      have hxf : x = fin := by have h := HR.out; rw [rbits] at h; exact h
      subst hxf
      have hxb : x < 2 ^ 240 := Nat.lt_of_lt_of_le (Nat.lt_of_lt_of_le (Nat.lt_succ_self x) HX.out) (by decide)
      have HXB := hid hxb
      have HPOW := hid (Pow_any 64 w3 (by omega))
      clear HR HX HGK hxb HFIN
      go_wp2_with fail
      refine HPOW.out.mono ?_
      rintro e w4 ⟨A8, c8, rfl, hS8, hb4⟩
      have HDIV := hid (Div_any x (2 ^ 64) A6 A8 c6 c8 w4 ((HS6.out.below hb4).more hb4.size) hS8 (Nat.le_trans ((dg_length_le x 16).2 (Nat.lt_of_lt_of_le HXB.out (by decide))) (by omega)) (Nat.le_trans ((dg_length_le _ 16).2 (by decide)) (by omega)) (by decide))
      have HB4 := hid (HB.out.trans (hb4.mono HB.out.size))
      clear hS8 hb4 HPOW HS6 HB
      go_wp2_with fail
      refine HDIV.out.mono ?_
      rintro e w5 ⟨A1, c1, A2, c2, rfl, hS1, hS2, hb5⟩
      have hm := HM.out
      rw [show x % 2 ^ 64 = m by rw [hm]] at hS2
      rw [show x % 2 ^ 64 = m by rw [hm]]
      have HLOW := hid (Low_any m A2 c2 w5.heap.size w5 hS2 (by rw [hm]; exact Nat.mod_lt _ (by decide)))
      have HB5 := hid (HB1.out.trans ((HB4.out.trans (hb5.mono HB4.out.size)).mono HB1.out.size))
      clear hS1 hS2 hb5 HDIV hm
      go_wp2_with fail
      refine HLOW.out.mono ?_
      rintro e w6 ⟨rfl, rfl⟩
      go_wp2
      go_ret
      exact ⟨rfl, HB5.out⟩
    · have e1 : ((i + 1 : Nat) : Int) - 1 = (i : Int) := by omega
      rw [e1]
      have h0 : (0 : Int) ≤ (i : Int) := by omega
      obtain ⟨y, hy⟩ : ∃ y, y = x + 2 ^ i := ⟨_, rfl⟩
      have hp2 : 2 ^ (i + 1) = 2 * 2 ^ i := by rw [Nat.pow_succ, Nat.mul_comm]
      have hx := HX.out
      rw [hp2] at hx
      have h270 : (2 : Nat) ^ 70 < 2 ^ 71 := by decide
      have hyb70 : y ≤ 2 ^ 70 := by omega
      have hyb : y < 2 ^ 240 := Nat.lt_of_le_of_lt hyb70 (by decide)
      have hy2b : y * y < 2 ^ 240 := Nat.lt_of_le_of_lt (Nat.mul_le_mul hyb70 hyb70) (by decide)
      have hxb : x < 2 ^ 240 := by omega
      have hib : 2 ^ i < 2 ^ 240 := by omega
      have hpy : y ^ 3 = y * y * y := by rw [Nat.pow_succ, Nat.pow_two]
      have hrn : rbits T 3 (if y * y * y ≤ T then y else x) i = fin := by
        have h := HR.out
        rw [rbits, ← hy, hpy] at h
        exact h
      have hxn : x + 2 ^ i ≤ 2 ^ 70 ∧ y + 2 ^ i ≤ 2 ^ 70 := by omega
      have HRN := hid hrn; have HXN := hid hxn; have HY := hid hy; have HYB := hid hyb; have HY2B := hid hy2b
      have HPOW := hid (Pow_any i w3 (by omega))
      have HXBL := hid (HBL.out x hxb); have HIBL := hid (HBL.out _ hib)
      clear hy hp2 hx h270 hyb70 hyb hy2b hxb hib hpy hrn hxn HR HX e1
      go_wp2_with fail
      refine HPOW.out.mono ?_
      rintro e wc ⟨Ac, cc, rfl, hSc, hbc⟩
      have HADD := Add_any x (2 ^ i) A6 Ac c6 cc wc ((HS6.out.below hbc).more hbc.size) hSc HXBL.out HIBL.out
      rw [← HY.out] at HADD
      have HADD := hid HADD; have HBC := hid hbc
      clear hSc hbc HPOW
      go_wp2_with fail
      refine HADD.out.mono ?_
      rintro e wd ⟨A8, c8, rfl, hS8, hbd⟩
      have hb3d : Below w3.heap.size w3 wd := HBC.out.trans (hbd.mono HBC.out.size)
      have HM2 := hid (Mul_any y y A8 A8 c8 c8 wd hS8 hS8 (HBL.out _ HYB.out) (HBL.out _ HYB.out))
      have HS8 := hid hS8; have HB3D := hid hb3d
      clear hS8 hbd hb3d HADD HBC
      go_wp2_with fail
      refine HM2.out.mono ?_
      rintro e w4 ⟨A9, c9, rfl, hS9, hb4⟩
      have hb34 : Below wd.heap.size wd w4 := hb4
      have hB4 : Below w3.heap.size w3 w4 := HB3D.out.trans (hb4.mono HB3D.out.size)
      have bl := HBL.out; have hyb := HYB.out; have hy2b := HY2B.out
      have HM3 := hid (Mul_any (y * y) y A9 A8 c9 c8 w4 hS9 ((HS8.out.below hb34).more hb34.size) (bl _ hy2b) (bl _ hyb))
      have HB4 := hid hB4
      have HB34 := hid hb34
      clear hS9 hb4 hb34 hB4 HM2
      go_wp2_with fail
      refine HM3.out.mono ?_
      rintro e w5 ⟨Az, cz, rfl, hSz, hb5⟩
      have hb35 : Below wd.heap.size wd w5 := HB34.out.trans (hb5.mono HB34.out.size)
      have hB5 : Below w3.heap.size w3 w5 := HB4.out.trans (hb5.mono HB4.out.size)
      clear bl hyb hy2b
      have hB1 : Below w1.heap.size w1 w5 := HB.out.trans (hB5.mono HB.out.size)
      have HLESS := hid (Less_any T (y * y * y) AT Az cT cz w1.heap.size w5.heap.size w5 (HST.out.below hB1) hSz (Nat.le_trans (HBL.out T HTB.out) (by omega)))
      have HS8' := hid ((HS8.out.below hb35).more hb35.size)
      have HS6' := hid ((HS6.out.below hB5).more hB5.size)
      have HBN := hid hB1
      clear hSz hb35 hB5 hB1 HS8 HS6
      go_wp2_with fail
      refine HLESS.out.mono ?_
      rintro e w7 ⟨rfl, n7, rfl⟩
      have HB7 := hid (belowB_drewN HBN.out n7)
      clear HLESS
      have hgk := HGK.out
      have f5 : IntKind.i64.wrap ((i : Int) - 1) = (i : Int) - 1 := IntWalk.i64_in _ (by omega)
      by_cases hc : T < y * y * y
      · have hd : decide (T < y * y * y) = true := decide_eq_true hc
        have hr := HRN.out
        rw [if_neg (by omega)] at hr
        have HR2 := hid hr
        clear hr hc hgk
        rw [hd]
        clear hd
        go_wp2
        have hgk := HGK.out
        go_roundg i
        case measure => omega
        case rel => exact ⟨i, x, A6, c6, rfl, rfl, rfl, HS6'.out, HR2.out, HXN.out.1, by omega, HB7.out⟩
      · have hd : decide (T < y * y * y) = false := decide_eq_false hc
        have hr := HRN.out
        rw [if_pos (by omega)] at hr
        have HR2 := hid hr
        clear hr hc hgk
        rw [hd]
        clear hd
        go_wp2
        have hgk := HGK.out
        go_roundg i
        case measure => omega
        case rel => exact ⟨i, y, A8, c8, rfl, rfl, rfl, HS8'.out, HR2.out, HXN.out.2, by omega, HB7.out⟩
end Go.Proofs.YtheamlhhfkaknaaGreatDoor
end
