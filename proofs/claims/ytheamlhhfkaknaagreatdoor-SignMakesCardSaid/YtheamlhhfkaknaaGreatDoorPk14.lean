/-
  Texts of this claim in one file: Ref10.
-/
import Derived.Test.YtheamlhhfkaknaaGreatDoorPk10
import Derived.Test.YtheamlhhfkaknaaGreatDoorPk13
import Derived.Test.YtheamlhhfkaknaaGreatDoorPk0
section
namespace Go.Proofs.YtheamlhhfkaknaaGreatDoor
open Go Go.RowKit
set_option linter.unusedVariables false
set_option linter.unusedSimpArgs false
/-- The secret's bytes, out of a digest: 32 of them, clamped. -/
def clampS (ps : List UInt8) : List UInt8 := (((ps.set 0 (UInt8.ofNat ((ps.getD 0 0).toNat / 8 * 8))).set 31 (UInt8.ofNat ((ps.getD 31 0).toNat % 64 + 64)))).take 32
theorem clampS_length {ps : List UInt8} (h : ps.length = 64) : (clampS ps).length = 32 := by unfold clampS; rw [List.length_take, List.length_set, List.length_set, h]; omega
theorem longB_64 (xs : List UInt8) : (longB xs).length = 64 := longB_length xs
set_option maxHeartbeats 1000000 in
theorem Secret10_any (A : Option Addr) (xs : List UInt8) (c : Nat) (w : World) (hS : Sq w w.heap.size A c (bvs xs)) (hl : xs.length ≤ 1000) :
    Calls Tryz.prog 11 #[.slice A xs.length c] w (BigR w (leN (clampS (longB xs)))) := by
  have HSUM := hid (sum3_any A xs c w (by omega) hS)
  obtain ⟨ps, hps⟩ : ∃ ps, ps = longB xs := ⟨_, rfl⟩
  rw [← hps] at HSUM ⊢
  have hpl : ps.length = 64 := by rw [hps]; exact longB_64 xs
  obtain ⟨N, hN⟩ : ∃ N, N = leN (clampS ps) := ⟨_, rfl⟩
  rw [← hN]
  clear hps hS
  go_enter Tryz.func11, Tryz.ntmps11
  go_wp2_with fail
  refine HSUM.out.mono ?_
  rintro e wr ⟨v, rfl, ho, hb⟩
  obtain ⟨A1, c2, rfl, -⟩ := own_sl ho
  unfold OwnB at ho
  rw [hpl] at ho ⊢
  obtain ⟨g, cur, rfl, hBg, hcur, hcp, hnc, hcm⟩ := own_parts ho (by omega)
  have HB := hid hb
  clear ho hb HSUM
  obtain ⟨y0, hy0⟩ : ∃ y, y = ps[0] := ⟨_, rfl⟩
  obtain ⟨y31, hy31⟩ : ∃ y, y = ps[31] := ⟨_, rfl⟩
  obtain ⟨z0, hz0⟩ : ∃ z, z = UInt8.ofNat (y0.toNat / 8 * 8) := ⟨_, rfl⟩
  obtain ⟨z31, hz31⟩ : ∃ z, z = UInt8.ofNat (y31.toNat % 64 + 64) := ⟨_, rfl⟩
  have hl0 := y0.toNat_lt
  have hl31 := y31.toNat_lt
  have hv0 : z0.toNat = y0.toNat / 8 * 8 := by rw [hz0]; simp [UInt8.toNat_ofNat']; omega
  have hv31 : z31.toNat = y31.toNat % 64 + 64 := by rw [hz31]; simp [UInt8.toNat_ofNat']; omega
  have hcl : clampS ps = ((ps.set 0 z0).set 31 z31).take 32 := by
    unfold clampS
    rw [hz0, hz31, hy0, hy31, List.getD_eq_getElem?_getD, List.getD_eq_getElem?_getD, List.getElem?_eq_getElem (by omega : 0 < ps.length), List.getElem?_eq_getElem (by omega : 31 < ps.length)]
    simp only [Option.getD_some]
  have hc0 : wr.cell? ⟨g, 0, none⟩ = some (.int .u8 (y0.toNat : Int)) := cell_of hcur 0 _ (hcp 0 _ (by rw [hy0]; exact bvs_at ps 0 (by omega)))
  have hf0 : wr.frozen? ⟨g, 0, none⟩ = false := frozen_of_row _ _ _ _ _ hcur
  have hset0 := block_set hcur 0 (.int .u8 (z0.toNat : Int))
  have hcs := set_cells hcp 0 (by omega) z0
  have hcs2 := set_cells hcs 31 (by rw [List.length_set]; omega) z31
  have h31 : (ps.set 0 z0)[31]'(by rw [List.length_set]; omega) = y31 := by rw [hy31]; exact List.getElem_set_ne (by omega) _
  have hc31 : (wr.setCell ⟨g, 0, none⟩ (.int .u8 (z0.toNat : Int))).cell? ⟨g, 31, none⟩ = some (.int .u8 (y31.toNat : Int)) := cell_of hset0 31 _ (hcs 31 _ (by rw [bvs_at _ 31 (by rw [List.length_set]; omega), h31]))
  have hf31 : (wr.setCell ⟨g, 0, none⟩ (.int .u8 (z0.toNat : Int))).frozen? ⟨g, 31, none⟩ = false := frozen_of_row _ _ _ _ _ hset0
  have hset1 := block_set hset0 31 (.int .u8 (z31.toNat : Int))
  obtain ⟨W2, hW2⟩ : ∃ W, W = (wr.setCell ⟨g, 0, none⟩ (.int .u8 (z0.toNat : Int))).setCell ⟨g, 31, none⟩ (.int .u8 (z31.toNat : Int)) := ⟨_, rfl⟩
  have hsq : Sq W2 W2.heap.size (some ⟨g, 0, none⟩) c2 (bvs (clampS ps)) := by
    have h := (row_sq (c := c2) hset1 (xs := (ps.set 0 z0).set 31 z31) (fun j v hj => hcs2 j v hj) (by rw [List.length_set, List.length_set]; omega) hcm).take 32
    rw [hcl, hW2]
    unfold bvs at h ⊢
    rw [List.map_take]
    exact h
  have hb2 : Below w.heap.size w W2 := by rw [hW2]; exact (HB.out.setCell (by simpa using hBg) _).setCell (by simpa using hBg) _
  have HOF := hid (Of6_any (some ⟨g, 0, none⟩) (clampS ps) c2 W2 hsq (by rw [clampS_length hpl]; omega))
  rw [clampS_length hpl, hW2] at HOF
  rw [hW2] at hb2
  have hq1 : ((y0.toNat : Int)).tdiv 8 = ((y0.toNat / 8 : Nat) : Int) := by rw [Int.tdiv_eq_ediv_of_nonneg (by omega)]; omega
  have hq2 : (y0.toNat : Int) / 8 = ((y0.toNat / 8 : Nat) : Int) := by omega
  have hq3 : IntKind.u8.wrap ((y0.toNat / 8 : Nat) : Int) = ((y0.toNat / 8 : Nat) : Int) := by rw [IntKind.wrap_u8]; omega
  have hq4 : IntKind.u8.wrap (((y0.toNat / 8 : Nat) : Int) * 8) = (z0.toNat : Int) := by rw [IntKind.wrap_u8, hv0]; omega
  have hr1 : ((y31.toNat : Int)).tmod 64 = ((y31.toNat % 64 : Nat) : Int) := by rw [Int.tmod_eq_emod_of_nonneg (by omega)]; omega
  have hr2 : (y31.toNat : Int) % 64 = ((y31.toNat % 64 : Nat) : Int) := by omega
  have hr3 : IntKind.u8.wrap ((y31.toNat % 64 : Nat) : Int) = ((y31.toNat % 64 : Nat) : Int) := by rw [IntKind.wrap_u8]; omega
  have hr4 : IntKind.u8.wrap (((y31.toNat % 64 : Nat) : Int) + 64) = (z31.toNat : Int) := by rw [IntKind.wrap_u8, hv31]; omega
  obtain ⟨q, hq⟩ : ∃ q, q = y0.toNat / 8 := ⟨_, rfl⟩
  obtain ⟨r, hr⟩ : ∃ r, r = y31.toNat % 64 := ⟨_, rfl⟩
  rw [← hq] at hq1 hq2 hq3 hq4
  rw [← hr] at hr1 hr2 hr3 hr4
  have hnc1 : (32 : Int) ≤ (c2 : Int) := by omega
  have HB2 := hid hb2
  rw [← hN] at HOF
  clear hsq hb2 hv0 hv31 hl0 hl31 hz0 hz31 hy0 hy31 hset0 hset1 hcs hcs2 h31 hcp hcur hq hr hcl hW2 hpl hN HB
  go_wp2_with fail
  refine HOF.out.mono ?_
  rintro e w3 ⟨A3, c3, rfl, hS3, hb3⟩
  have HS3 := hid hS3; have HB3 := hid (HB2.out.trans (hb3.mono HB2.out.size))
  clear hS3 hb3 HOF HB2
  go_wp2
  go_ret
  exact ⟨A3, c3, rfl, HS3.out, HB3.out⟩
theorem Prefix10_any (A : Option Addr) (xs : List UInt8) (c : Nat) (w : World) (hS : Sq w w.heap.size A c (bvs xs)) (hl : xs.length ≤ 1000) :
    Calls Tryz.prog 13 #[.slice A xs.length c] w fun e w' => ∃ A' c', e = .returned (.slice A' 32 c') ∧ Sq w' w'.heap.size A' c' (bvs ((longB xs).drop 32)) ∧ Below w.heap.size w w' := by
  have HSUM := hid (sum3_any A xs c w (by omega) hS)
  obtain ⟨ps, hps⟩ : ∃ ps, ps = longB xs := ⟨_, rfl⟩
  rw [← hps] at HSUM ⊢
  have hpl : ps.length = 64 := by rw [hps]; exact longB_64 xs
  clear hps hS
  go_enter Tryz.func13, Tryz.ntmps13
  go_wp2_with fail
  refine HSUM.out.mono ?_
  rintro e wr ⟨v, rfl, ho, hb⟩
  obtain ⟨A1, c2, rfl, -⟩ := own_sl ho
  unfold OwnB at ho
  rw [hpl] at ho ⊢
  obtain ⟨g, cur, rfl, hBg, hcur, hcp, hnc, hcm⟩ := own_parts ho (by omega)
  have hsq : Sq wr wr.heap.size (some ⟨g, 32, none⟩) (c2 - 32) (bvs (ps.drop 32)) := .inr ⟨g, 32, rfl, block_lt hcur, by rw [bvs_length, List.length_drop]; omega, by omega, fun j u hu => by
    refine cell_of hcur (32 + j) u (hcp (32 + j) u ?_)
    unfold bvs at hu ⊢
    rw [List.map_drop, List.getElem?_drop] at hu
    exact hu⟩
  have HB := hid hb; have HSQ := hid hsq
  have hnc1 : (64 : Int) ≤ (c2 : Int) := by omega
  have hnc2 : (32 : Int) ≤ (c2 : Int) := by omega
  clear ho hb HSUM hsq hcp hcur
  go_wp2_with fail
  go_ret
  refine ⟨_, _, rfl, ?_, HB.out⟩
  have : c2 - 32 = c2 - 32 := rfl
  simpa using HSQ.out
end Go.Proofs.YtheamlhhfkaknaaGreatDoor
end
