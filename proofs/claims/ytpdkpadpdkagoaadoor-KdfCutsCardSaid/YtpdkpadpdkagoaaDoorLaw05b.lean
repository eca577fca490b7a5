/-
  The statement KdfCuts: the walk.
-/
import Derived.Test.YtpdkpadpdkagoaaDoorLaw05a
namespace Go.Proofs.YtpdkpadpdkagoaaDoor
open Go.RowKit
set_option linter.unusedVariables false
set_option linter.unusedSimpArgs false

set_option maxRecDepth 100000 in
set_option maxHeartbeats 1600000 in
theorem kdfCuts_any (A : Option Addr) (key : List UInt8) (c : Nat) (A' : Option Addr) (info : List UInt8) (c' : Nat) (n m : Int) (w : World) (hA : Sq w w.heap.size A c (bvs key)) (hA' : Sq w w.heap.size A' c' (bvs info)) (hn0 : 0 ≤ n) (hn1 : n ≤ 65535) (hm0 : 0 ≤ m) (hm1 : m ≤ 65535) (hG : Glob w) :
    Calls Tryd.prog 5 #[.slice A key.length c, .slice A' info.length c', .int .u16 n, .int .u16 m] w fun e w' => e = .returned (.bool true) ∧ Below w.heap.size w w' := by
  have HA := hid hA; have HA' := hid hA'; have HG := hid hG
  clear hA hA' hG
  by_cases h1 : 200 < key.length
  · have hx : (200 : Int) < (key.length : Int) := by omega
    go_enter Tryd.func5, Tryd.ntmps5
    go_wp2_with fail
    refine (alive5_any _ HG.out).mono ?_
    rintro e w1 ⟨rfl, hb1⟩
    go_wp2
    go_ret
    exact ⟨rfl, hb1⟩
  have hx1 : ¬ (200 : Int) < (key.length : Int) := by omega
  have hx1' : decide ((200 : Int) < (key.length : Int)) = false := by simpa using hx1
  by_cases h2 : 200 < info.length
  · have hx : (200 : Int) < (info.length : Int) := by omega
    go_enter Tryd.func5, Tryd.ntmps5
    go_wp2_with fail
    refine (alive5_any _ HG.out).mono ?_
    rintro e w1 ⟨rfl, hb1⟩
    go_wp2
    go_ret
    exact ⟨rfl, hb1⟩
  have hx2 : ¬ (200 : Int) < (info.length : Int) := by omega
  have hx2' : decide ((200 : Int) < (info.length : Int)) = false := by simpa using hx2
  obtain ⟨a, ha⟩ : ∃ a : Nat, a = n.toNat % 8161 := ⟨_, rfl⟩
  obtain ⟨b0, hb0⟩ : ∃ b : Nat, b = m.toNat % 400 := ⟨_, rfl⟩
  have hta : Int.tmod n 8161 = (a : Int) := by rw [ha, Int.tmod_eq_emod_of_nonneg hn0]; omega
  have htb : Int.tmod m 400 = (b0 : Int) := by rw [hb0, Int.tmod_eq_emod_of_nonneg hm0]; omega
  have hwn : IntKind.i64.wrap n = n := IntWalk.i64_in _ (by omega)
  have hwm : IntKind.i64.wrap m = m := IntWalk.i64_in _ (by omega)
  have ha8 : a ≤ 8160 := by omega
  have hb4 : b0 < 400 := by omega
  clear ha hb0
  by_cases hgt : a < b0
  · have hxg : (a : Int) < (b0 : Int) := by omega
    go_enter Tryd.func5, Tryd.ntmps5
    go_wp2_with fail
    refine (alive5_any _ HG.out).mono ?_
    rintro e w1 ⟨rfl, hb1⟩
    have hE1 := Expand_ok A key c A' info c' a w1 ((HA.out.below hb1).more hb1.size) ((HA'.out.below hb1).more hb1.size) (HG.out.below hb1 (Nat.le_refl _)) ha8 (by omega) (by omega)
    have HE1 := hid hE1; have HB1 := hid hb1
    clear hE1 hb1
    go_wp2_with fail
    refine HE1.out.mono ?_
    rintro e w2 ⟨x, rfl, hox, hb2⟩
    obtain ⟨Ax, cx, rfl, hSx⟩ := own_sl hox
    rw [kdfB_length]
    have hcx := hSx.cap
    rw [bvs_length, kdfB_length] at hcx
    obtain ⟨hcx1, hcx2⟩ := hcx
    have HLX : Hid (Lie w2 w2.heap.size Ax (bvs (kdfB key info a))) := hid (by
      have h := hSx.lie.take a
      rw [bvs, ← List.map_take, kdfB_cut key info a a (by omega)] at h
      exact h)
    have hB2 : Below w.heap.size w w2 := HB1.out.trans (hb2.mono HB1.out.size)
    have hE2 := Expand_ok A key c A' info c' a w2 ((HA.out.below hB2).more hB2.size) ((HA'.out.below hB2).more hB2.size) (HG.out.below hB2 (Nat.le_refl _)) (by omega) (by omega) (by omega)
    have HE2 := hid hE2; have HB2 := hid hB2
    clear hE2 hox hb2 hSx hB2 HE1
    go_wp2_with fail
    refine HE2.out.mono ?_
    rintro e w3 ⟨y, rfl, hoy, hb3⟩
    obtain ⟨Ay, cy, rfl, hSy⟩ := own_sl hoy
    rw [kdfB_length]
    have hB3 : Below w.heap.size w w3 := HB2.out.trans (hb3.mono HB2.out.size)
    have HLX3 : Hid (Lie w3 w3.heap.size Ax (bvs (kdfB key info a))) := hid ((HLX.out.below hb3).more hb3.size)
    have HLY := hid hSy.lie
    have hE3 := Expand_ok A key c A' info c' 8160 w3 ((HA.out.below hB3).more hB3.size) ((HA'.out.below hB3).more hB3.size) (HG.out.below hB3 (Nat.le_refl _)) (by omega) (by omega) (by omega)
    have HE3 := hid hE3; have HB3 := hid hB3
    clear hE3 hoy hb3 hSy hB3 HE2 HLX
    go_wp2_with fail
    refine HE3.out.mono ?_
    rintro e w4 ⟨z, rfl, hoz, hb4'⟩
    obtain ⟨Az, cz, rfl, _⟩ := own_sl hoz
    rw [kdfB_length]
    have HB4 := hid (HB3.out.trans (hb4'.mono HB3.out.size))
    have HS := hid (Same_32 Ax (kdfB key info a) cx Ay (kdfB key info a) cy w4 w4.heap.size w4.heap.size a ((HLX3.out.below hb4').more hb4'.size) ((HLY.out.below hb4').more hb4'.size) (kdfB_length _ _ _) (kdfB_length _ _ _) (by omega))
    rw [show (kdfB key info a == kdfB key info a) = true from beq_self_eq_true _] at HS
    have hbi : (a : Int) ≤ (a : Int) := by omega
    have hbc : (a : Int) ≤ (cx : Int) := by omega
    have hb0' : (0 : Int) ≤ (a : Int) := by omega
    have haa : (((a : Nat) : Int) == ((a : Nat) : Int)) = true := beq_self_eq_true _
    clear hoz hb4' HE3
    go_wp2_with fail
    refine HS.out.mono ?_
    rintro e wx ⟨rfl, nx, rfl⟩
    have HEND := hid (below_drewN HB4.out nx)
    clear HS HB4
    go_wp2
    go_ret
    exact ⟨rfl, HEND.out⟩
  · have hxg : ¬ (a : Int) < (b0 : Int) := by omega
    go_enter Tryd.func5, Tryd.ntmps5
    go_wp2_with fail
    refine (alive5_any _ HG.out).mono ?_
    rintro e w1 ⟨rfl, hb1⟩
    have hE1 := Expand_ok A key c A' info c' a w1 ((HA.out.below hb1).more hb1.size) ((HA'.out.below hb1).more hb1.size) (HG.out.below hb1 (Nat.le_refl _)) ha8 (by omega) (by omega)
    have HE1 := hid hE1; have HB1 := hid hb1
    clear hE1 hb1
    go_wp2_with fail
    refine HE1.out.mono ?_
    rintro e w2 ⟨x, rfl, hox, hb2⟩
    obtain ⟨Ax, cx, rfl, hSx⟩ := own_sl hox
    rw [kdfB_length]
    have hcx := hSx.cap
    rw [bvs_length, kdfB_length] at hcx
    obtain ⟨hcx1, hcx2⟩ := hcx
    have HLX : Hid (Lie w2 w2.heap.size Ax (bvs (kdfB key info b0))) := hid (by
      have h := hSx.lie.take b0
      rw [bvs, ← List.map_take, kdfB_cut key info a b0 (by omega)] at h
      exact h)
    have hB2 : Below w.heap.size w w2 := HB1.out.trans (hb2.mono HB1.out.size)
    have hE2 := Expand_ok A key c A' info c' b0 w2 ((HA.out.below hB2).more hB2.size) ((HA'.out.below hB2).more hB2.size) (HG.out.below hB2 (Nat.le_refl _)) (by omega) (by omega) (by omega)
    have HE2 := hid hE2; have HB2 := hid hB2
    clear hE2 hox hb2 hSx hB2 HE1
    go_wp2_with fail
    refine HE2.out.mono ?_
    rintro e w3 ⟨y, rfl, hoy, hb3⟩
    obtain ⟨Ay, cy, rfl, hSy⟩ := own_sl hoy
    rw [kdfB_length]
    have hB3 : Below w.heap.size w w3 := HB2.out.trans (hb3.mono HB2.out.size)
    have HLX3 : Hid (Lie w3 w3.heap.size Ax (bvs (kdfB key info b0))) := hid ((HLX.out.below hb3).more hb3.size)
    have HLY := hid hSy.lie
    have hE3 := Expand_ok A key c A' info c' 8160 w3 ((HA.out.below hB3).more hB3.size) ((HA'.out.below hB3).more hB3.size) (HG.out.below hB3 (Nat.le_refl _)) (by omega) (by omega) (by omega)
    have HE3 := hid hE3; have HB3 := hid hB3
    clear hE3 hoy hb3 hSy hB3 HE2 HLX
    go_wp2_with fail
    refine HE3.out.mono ?_
    rintro e w4 ⟨z, rfl, hoz, hb4'⟩
    obtain ⟨Az, cz, rfl, _⟩ := own_sl hoz
    rw [kdfB_length]
    have HB4 := hid (HB3.out.trans (hb4'.mono HB3.out.size))
    have HS := hid (Same_32 Ax (kdfB key info b0) cx Ay (kdfB key info b0) cy w4 w4.heap.size w4.heap.size b0 ((HLX3.out.below hb4').more hb4'.size) ((HLY.out.below hb4').more hb4'.size) (kdfB_length _ _ _) (kdfB_length _ _ _) (by omega))
    rw [show (kdfB key info b0 == kdfB key info b0) = true from beq_self_eq_true _] at HS
    have hbi : (b0 : Int) ≤ (a : Int) := by omega
    have hbc : (b0 : Int) ≤ (cx : Int) := by omega
    have hb0' : (0 : Int) ≤ (b0 : Int) := by omega
    have haa : (((a : Nat) : Int) == ((a : Nat) : Int)) = true := beq_self_eq_true _
    clear hoz hb4' HE3
    go_wp2_with fail
    refine HS.out.mono ?_
    rintro e wx ⟨rfl, nx, rfl⟩
    have HEND := hid (below_drewN HB4.out nx)
    clear HS HB4
    go_wp2
    go_ret
    exact ⟨rfl, HEND.out⟩
end Go.Proofs.YtpdkpadpdkagoaaDoor
