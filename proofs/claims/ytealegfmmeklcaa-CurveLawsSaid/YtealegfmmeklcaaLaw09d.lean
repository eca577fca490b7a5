/-
  The statement CurveLaws: the walk.
-/
import Derived.Test.YtealegfmmeklcaaLaw09a
import Derived.Test.YtealegfmmeklcaaCutP
namespace Go.Proofs.Ytealegfmmeklcaa
open Go Go.RowKit
set_option linter.unusedVariables false
set_option linter.unusedSimpArgs false

set_option maxRecDepth 100000 in
set_option maxHeartbeats 4000000 in
theorem laws9_any (A : Option Addr) (xs : List UInt8) (c : Nat) (A' : Option Addr) (ys : List UInt8) (c' : Nat) (A'' : Option Addr) (zs : List UInt8) (c'' : Nat) (w : World) (hS : Sq w w.heap.size A c (bvs xs)) (hS' : Sq w w.heap.size A' c' (bvs ys)) (hS'' : Sq w w.heap.size A'' c'' (bvs zs)) :
    Calls Try.prog 6 #[.slice A xs.length c, .slice A' ys.length c', .slice A'' zs.length c''] w fun e w' => e = .returned (.bool true) ∧ Below w.heap.size w w' := by
  have hx := len_cap hS; have hy := len_cap hS'; have hz := len_cap hS''
  have HS := hid hS; have HS' := hid hS'; have HS'' := hid hS''
  have HAL := hid alive9_any
  obtain ⟨vx, hvx, KX⟩ := CvOf xs hx
  obtain ⟨vy, hvy, KY⟩ := CvOf ys hy
  obtain ⟨vz, hvz, KZ⟩ := CvOf zs hz
  have HVX := hid hvx; have HVY := hid hvy; have HVZ := hid hvz
  generalize (ptOf xs).isSome = bx at KX
  generalize (ptOf ys).isSome = by' at KY
  generalize (ptOf zs).isSome = bz at KZ
  generalize ptO xs = px at HVX
  generalize ptO ys = py at HVY
  generalize ptO zs = pz at HVZ
  clear hS hS' hS'' hx hy hz hvx hvy hvz
  go_enter Try.func6, Try.ntmps6
  go_wp2_with fail
  refine (HAL.out _).mono ?_
  rintro e w0 ⟨rfl, hb⟩
  have S0 : Hid (St w w0 [] []) := hid ((St.start w).on hb)
  clear hb
  go_upto_region 3 with fail
  refine wpLA_start ?_
  refine wpLA_take (.slice A (xs.length) c) (yG_val _ (by rfl) (fun w' _ => by (go_simp; try rfl))) ?_
  (try simp only [Act.put, List.getElem_toArray, List.getElem_cons_succ, List.getElem_cons_zero, List.setIfInBounds_toArray, List.set_cons_zero, List.set_cons_succ])
  refine wpLA_take (.tuple #[(.agg (vx)), (.bool bx)]) (yG_call (by rfl) (fun w' => by go_simp) (fun w' hb => KX.out _ _ w' (HS.out.on6 ((S0.out.on hb).below)))) ?_
  (try simp only [Act.put, List.getElem_toArray, List.getElem_cons_succ, List.getElem_cons_zero, List.setIfInBounds_toArray, List.set_cons_zero, List.set_cons_succ])
  refine wpLA_take (.tuple #[(.agg (vx)), (.bool bx)]) (yG_val _ (by rfl) (fun w' _ => by (go_simp; try rfl))) ?_
  (try simp only [Act.put, List.getElem_toArray, List.getElem_cons_succ, List.getElem_cons_zero, List.setIfInBounds_toArray, List.set_cons_zero, List.set_cons_succ])
  refine wpLA_take (.agg (vx)) (yG_val _ (by rfl) (fun w' _ => by (go_simp; try rfl))) ?_
  (try simp only [Act.put, List.getElem_toArray, List.getElem_cons_succ, List.getElem_cons_zero, List.setIfInBounds_toArray, List.set_cons_zero, List.set_cons_succ])
  refine wpLA_take (.bool bx) (yG_val _ (by rfl) (fun w' _ => by (go_simp; try rfl))) ?_
  (try simp only [Act.put, List.getElem_toArray, List.getElem_cons_succ, List.getElem_cons_zero, List.setIfInBounds_toArray, List.set_cons_zero, List.set_cons_succ])
  refine wpLA_alloc (by rfl) rfl zeroP ?_
  intro p1 w1 hp hz hb
  have S1 : Hid (St w w1 [(p1, zP, PT)] []) := hid (S0.out.alloc hb hp hz)
  clear hp hz hb S0
  (try simp only [Act.put, List.getElem_toArray, List.getElem_cons_succ, List.getElem_cons_zero, List.setIfInBounds_toArray, List.set_cons_zero, List.set_cons_succ])
  refine wpLA_store rfl PT (.tmp 7) (.tmp 20) rfl p1 (vx) rfl rfl PT (zP) S1.out.cl.1 HVX.out.info (zP_is.size2 HVX.out) HVX.out.one ?_
  intro wx hb
  have S2 : Hid (St w (wx.setRow p1 (vx)) [(p1, vx, PT)] []) := hid ((S1.out.on hb).put0 0 rfl)
  clear hb S1
  generalize wx.setRow p1 (vx) = w2 at S2 ⊢
  (try simp only [Act.put, List.getElem_toArray, List.getElem_cons_succ, List.getElem_cons_zero, List.setIfInBounds_toArray, List.set_cons_zero, List.set_cons_succ])
  refine wpLA_take (.bool bx) (yG_val _ (by rfl) (fun w' _ => by (go_simp; try rfl))) ?_
  (try simp only [Act.put, List.getElem_toArray, List.getElem_cons_succ, List.getElem_cons_zero, List.setIfInBounds_toArray, List.set_cons_zero, List.set_cons_succ])
  refine wpLA_end ?_
  intro w3 hb
  have S3 := hid (S2.out.on hb)
  clear hb S2
  go_upto_region 4 with fail
  refine wpLA_start ?_
  refine wpLA_take (.slice A' (ys.length) c') (yG_val _ (by rfl) (fun w' _ => by (go_simp; try rfl))) ?_
  (try simp only [Act.put, List.getElem_toArray, List.getElem_cons_succ, List.getElem_cons_zero, List.setIfInBounds_toArray, List.set_cons_zero, List.set_cons_succ])
  refine wpLA_take (.tuple #[(.agg (vy)), (.bool by')]) (yG_call (by rfl) (fun w' => by go_simp) (fun w' hb => KY.out _ _ w' (HS'.out.on6 ((S3.out.on hb).below)))) ?_
  (try simp only [Act.put, List.getElem_toArray, List.getElem_cons_succ, List.getElem_cons_zero, List.setIfInBounds_toArray, List.set_cons_zero, List.set_cons_succ])
  refine wpLA_take (.tuple #[(.agg (vy)), (.bool by')]) (yG_val _ (by rfl) (fun w' _ => by (go_simp; try rfl))) ?_
  (try simp only [Act.put, List.getElem_toArray, List.getElem_cons_succ, List.getElem_cons_zero, List.setIfInBounds_toArray, List.set_cons_zero, List.set_cons_succ])
  refine wpLA_take (.agg (vy)) (yG_val _ (by rfl) (fun w' _ => by (go_simp; try rfl))) ?_
  (try simp only [Act.put, List.getElem_toArray, List.getElem_cons_succ, List.getElem_cons_zero, List.setIfInBounds_toArray, List.set_cons_zero, List.set_cons_succ])
  refine wpLA_take (.bool by') (yG_val _ (by rfl) (fun w' _ => by (go_simp; try rfl))) ?_
  (try simp only [Act.put, List.getElem_toArray, List.getElem_cons_succ, List.getElem_cons_zero, List.setIfInBounds_toArray, List.set_cons_zero, List.set_cons_succ])
  refine wpLA_alloc (by rfl) rfl zeroP ?_
  intro p4 w4 hp hz hb
  have S4 : Hid (St w w4 [(p4, zP, PT), (p1, vx, PT)] []) := hid (S3.out.alloc hb hp hz)
  clear hp hz hb S3
  (try simp only [Act.put, List.getElem_toArray, List.getElem_cons_succ, List.getElem_cons_zero, List.setIfInBounds_toArray, List.set_cons_zero, List.set_cons_succ])
  refine wpLA_store rfl PT (.tmp 9) (.tmp 25) rfl p4 (vy) rfl rfl PT (zP) S4.out.cl.1 HVY.out.info (zP_is.size2 HVY.out) HVY.out.one ?_
  intro wx hb
  have S5 : Hid (St w (wx.setRow p4 (vy)) [(p4, vy, PT), (p1, vx, PT)] []) := hid ((S4.out.on hb).put0 0 rfl)
  clear hb S4
  generalize wx.setRow p4 (vy) = w5 at S5 ⊢
  (try simp only [Act.put, List.getElem_toArray, List.getElem_cons_succ, List.getElem_cons_zero, List.setIfInBounds_toArray, List.set_cons_zero, List.set_cons_succ])
  refine wpLA_take (.bool by') (yG_val _ (by rfl) (fun w' _ => by (go_simp; try rfl))) ?_
  (try simp only [Act.put, List.getElem_toArray, List.getElem_cons_succ, List.getElem_cons_zero, List.setIfInBounds_toArray, List.set_cons_zero, List.set_cons_succ])
  refine wpLA_end ?_
  intro w6 hb
  have S6 := hid (S5.out.on hb)
  clear hb S5
  go_upto_region 5 with fail
  refine wpLA_start ?_
  refine wpLA_take (.slice A'' (zs.length) c'') (yG_val _ (by rfl) (fun w' _ => by (go_simp; try rfl))) ?_
  (try simp only [Act.put, List.getElem_toArray, List.getElem_cons_succ, List.getElem_cons_zero, List.setIfInBounds_toArray, List.set_cons_zero, List.set_cons_succ])
  refine wpLA_take (.tuple #[(.agg (vz)), (.bool bz)]) (yG_call (by rfl) (fun w' => by go_simp) (fun w' hb => KZ.out _ _ w' (HS''.out.on6 ((S6.out.on hb).below)))) ?_
  (try simp only [Act.put, List.getElem_toArray, List.getElem_cons_succ, List.getElem_cons_zero, List.setIfInBounds_toArray, List.set_cons_zero, List.set_cons_succ])
  refine wpLA_take (.tuple #[(.agg (vz)), (.bool bz)]) (yG_val _ (by rfl) (fun w' _ => by (go_simp; try rfl))) ?_
  (try simp only [Act.put, List.getElem_toArray, List.getElem_cons_succ, List.getElem_cons_zero, List.setIfInBounds_toArray, List.set_cons_zero, List.set_cons_succ])
  refine wpLA_take (.agg (vz)) (yG_val _ (by rfl) (fun w' _ => by (go_simp; try rfl))) ?_
  (try simp only [Act.put, List.getElem_toArray, List.getElem_cons_succ, List.getElem_cons_zero, List.setIfInBounds_toArray, List.set_cons_zero, List.set_cons_succ])
  refine wpLA_take (.bool bz) (yG_val _ (by rfl) (fun w' _ => by (go_simp; try rfl))) ?_
  (try simp only [Act.put, List.getElem_toArray, List.getElem_cons_succ, List.getElem_cons_zero, List.setIfInBounds_toArray, List.set_cons_zero, List.set_cons_succ])
  refine wpLA_alloc (by rfl) rfl zeroP ?_
  intro p7 w7 hp hz hb
  have S7 : Hid (St w w7 [(p7, zP, PT), (p4, vy, PT), (p1, vx, PT)] []) := hid (S6.out.alloc hb hp hz)
  clear hp hz hb S6
  (try simp only [Act.put, List.getElem_toArray, List.getElem_cons_succ, List.getElem_cons_zero, List.setIfInBounds_toArray, List.set_cons_zero, List.set_cons_succ])
  refine wpLA_store rfl PT (.tmp 11) (.tmp 30) rfl p7 (vz) rfl rfl PT (zP) S7.out.cl.1 HVZ.out.info (zP_is.size2 HVZ.out) HVZ.out.one ?_
  intro wx hb
  have S8 : Hid (St w (wx.setRow p7 (vz)) [(p7, vz, PT), (p4, vy, PT), (p1, vx, PT)] []) := hid ((S7.out.on hb).put0 0 rfl)
  clear hb S7
  generalize wx.setRow p7 (vz) = w8 at S8 ⊢
  (try simp only [Act.put, List.getElem_toArray, List.getElem_cons_succ, List.getElem_cons_zero, List.setIfInBounds_toArray, List.set_cons_zero, List.set_cons_succ])
  refine wpLA_take (.bool bz) (yG_val _ (by rfl) (fun w' _ => by (go_simp; try rfl))) ?_
  (try simp only [Act.put, List.getElem_toArray, List.getElem_cons_succ, List.getElem_cons_zero, List.setIfInBounds_toArray, List.set_cons_zero, List.set_cons_succ])
  refine wpLA_end ?_
  intro w9 hb
  have S9 := hid (S8.out.on hb)
  clear hb S8
  go_upto_if 33 with fail
  go_cut [] from 34 (fun wr => ∃ v p, PtV v p ∧ St w wr [(p7, vz, PT), (p4, vy, PT), (p1, v, PT)] [])
  case first =>
    cases bx with
    | true =>
      go_wp2_with fail
      go_meet
      case rel => exact ⟨_, _, HVX.out, S9.out⟩
    | false =>
      go_upto_region 7 with fail
      refine wpLA_start ?_
      obtain ⟨s1, g1, L1⟩ := CvBase
      have G1 := hid g1
      clear g1
      refine wpLA_take (.agg (s1)) (yG_call (by rfl) (fun w' => by go_simp) (fun w' hb => L1.out w')) ?_
      (try simp only [Act.put, List.getElem_toArray, List.getElem_cons_succ, List.getElem_cons_zero, List.setIfInBounds_toArray, List.set_cons_zero, List.set_cons_succ])
      refine wpLA_store rfl PT (.tmp 7) (.tmp 34) rfl p1 (s1) rfl rfl PT (vx) S9.out.cl.2.2.1 G1.out.info (HVX.out.size2 G1.out) G1.out.one ?_
      intro wx hb
      have S10 : Hid (St w (wx.setRow p1 (s1)) [(p7, vz, PT), (p4, vy, PT), (p1, s1, PT)] []) := hid ((S9.out.on hb).put0 2 rfl)
      clear hb S9
      generalize wx.setRow p1 (s1) = w10 at S10 ⊢
      (try simp only [Act.put, List.getElem_toArray, List.getElem_cons_succ, List.getElem_cons_zero, List.setIfInBounds_toArray, List.set_cons_zero, List.set_cons_succ])
      refine wpLA_end ?_
      intro w11 hb
      have S11 := hid (S10.out.on hb)
      clear hb S10
      go_wp2_with fail
      go_meet
      case rel => exact ⟨_, _, G1.out, S11.out⟩
  obtain ⟨c12, p, hv, hs⟩ := hcut
  have HV12 := hid hv
  have S12 := hid hs
  clear hv hs S9
  generalize wc = w12 at S12 ⊢
  go_upto_if 36 with fail
  go_cut [] from 37 (fun wr => ∃ v p, PtV v p ∧ St w wr [(p7, vz, PT), (p4, v, PT), (p1, c12, PT)] [])
  case first =>
    cases by' with
    | true =>
      go_wp2_with fail
      go_meet
      case rel => exact ⟨_, _, HVY.out, S12.out⟩
    | false =>
      go_upto_region 9 with fail
      refine wp_region_grA 3 (by kernel_rfl) (by decide) ?_
      refine wpGrA_take (i := 0) (.agg (c12)) rfl (by kernel_rfl) (by kernel_rfl) (fun _ _ _ h => h) (yG_part (by rfl) PT (.tmp 7) rfl p1 0 rfl PT (c12) (c12) (0, 0) _ S12.out.cl.2.2.1 HV12.out.all Try.underlying28 rfl HV12.out.info) ?_
      (try simp only [Act.put, List.getElem_toArray, List.getElem_cons_succ, List.getElem_cons_zero, List.setIfInBounds_toArray, List.set_cons_zero, List.set_cons_succ])
      obtain ⟨s2, g2, L2⟩ := CvBase
      have G2 := hid g2
      clear g2
      refine wpGrA_take (i := 1) (.agg (s2)) rfl (by kernel_rfl) (by kernel_rfl) (fun _ _ _ h => h) (yG_call (by rfl) (fun w' => by go_simp) (fun w' hb => L2.out w')) ?_
      (try simp only [Act.put, List.getElem_toArray, List.getElem_cons_succ, List.getElem_cons_zero, List.setIfInBounds_toArray, List.set_cons_zero, List.set_cons_succ])
      obtain ⟨s3, g3, L3⟩ := CvAdd HV12.out G2.out
      have G3 := hid g3
      clear g3
      refine wpGrA_take (i := 2) (.agg (s3)) rfl (by kernel_rfl) (by kernel_rfl) (fun _ _ _ h => h) (yG_call (by rfl) (fun w' => by go_simp) (fun w' hb => L3.out w')) ?_
      (try simp only [Act.put, List.getElem_toArray, List.getElem_cons_succ, List.getElem_cons_zero, List.setIfInBounds_toArray, List.set_cons_zero, List.set_cons_succ])
      refine wpGrA_end (by kernel_rfl) ?_
      intro w13 hb
      have S13 := hid (S12.out.on hb)
      clear hb S12
      refine wpLA_here ?_
      refine wpLA_store rfl PT (.tmp 9) (.tmp 39) rfl p4 (s3) rfl rfl PT (vy) S13.out.cl.2.1 G3.out.info (HVY.out.size2 G3.out) G3.out.one ?_
      intro wx hb
      have S14 : Hid (St w (wx.setRow p4 (s3)) [(p7, vz, PT), (p4, s3, PT), (p1, c12, PT)] []) := hid ((S13.out.on hb).put0 1 rfl)
      clear hb S13
      generalize wx.setRow p4 (s3) = w14 at S14 ⊢
      (try simp only [Act.put, List.getElem_toArray, List.getElem_cons_succ, List.getElem_cons_zero, List.setIfInBounds_toArray, List.set_cons_zero, List.set_cons_succ])
      refine wpLA_end ?_
      intro w15 hb
      have S15 := hid (S14.out.on hb)
      clear hb S14
      go_wp2_with fail
      go_meet
      case rel => exact ⟨_, _, G3.out, S15.out⟩
  obtain ⟨c16, q, hv, hs⟩ := hcut
  have HV16 := hid hv
  have S16 := hid hs
  clear hv hs S12
  generalize wc = w16 at S16 ⊢
  go_upto_if 41 with fail
  go_cut [] from 42 (fun wr => ∃ v p, PtV v p ∧ St w wr [(p7, v, PT), (p4, c16, PT), (p1, c12, PT)] [])
  case first =>
    cases bz with
    | true =>
      go_wp2_with fail
      go_meet
      case rel => exact ⟨_, _, HVZ.out, S16.out⟩
    | false =>
      go_upto_region 11 with fail
      refine wpLA_start ?_
      refine wpLA_take (.agg (c16)) (yG_part (by rfl) PT (.tmp 9) rfl p4 0 rfl PT (c16) (c16) (0, 0) _ S16.out.cl.2.1 HV16.out.all Try.underlying28 rfl HV16.out.info) ?_
      (try simp only [Act.put, List.getElem_toArray, List.getElem_cons_succ, List.getElem_cons_zero, List.setIfInBounds_toArray, List.set_cons_zero, List.set_cons_succ])
      refine wpLA_take (.agg (c12)) (yG_part (by rfl) PT (.tmp 7) rfl p1 0 rfl PT (c12) (c12) (0, 0) _ S16.out.cl.2.2.1 HV12.out.all Try.underlying28 rfl HV12.out.info) ?_
      (try simp only [Act.put, List.getElem_toArray, List.getElem_cons_succ, List.getElem_cons_zero, List.setIfInBounds_toArray, List.set_cons_zero, List.set_cons_succ])
      obtain ⟨s4, g4, L4⟩ := CvAdd HV16.out HV12.out
      have G4 := hid g4
      clear g4
      refine wpLA_take (.agg (s4)) (yG_call (by rfl) (fun w' => by go_simp) (fun w' hb => L4.out w')) ?_
      (try simp only [Act.put, List.getElem_toArray, List.getElem_cons_succ, List.getElem_cons_zero, List.setIfInBounds_toArray, List.set_cons_zero, List.set_cons_succ])
      refine wpLA_store rfl PT (.tmp 11) (.tmp 44) rfl p7 (s4) rfl rfl PT (vz) S16.out.cl.1 G4.out.info (HVZ.out.size2 G4.out) G4.out.one ?_
      intro wx hb
      have S17 : Hid (St w (wx.setRow p7 (s4)) [(p7, s4, PT), (p4, c16, PT), (p1, c12, PT)] []) := hid ((S16.out.on hb).put0 0 rfl)
      clear hb S16
      generalize wx.setRow p7 (s4) = w17 at S17 ⊢
      (try simp only [Act.put, List.getElem_toArray, List.getElem_cons_succ, List.getElem_cons_zero, List.setIfInBounds_toArray, List.set_cons_zero, List.set_cons_succ])
      refine wpLA_end ?_
      intro w18 hb
      have S18 := hid (S17.out.on hb)
      clear hb S17
      go_wp2_with fail
      go_meet
      case rel => exact ⟨_, _, G4.out, S18.out⟩
  obtain ⟨c19, r, hv, hs⟩ := hcut
  have HV19 := hid hv
  have S19 := hid hs
  clear hv hs S16
  generalize wc = w19 at S19 ⊢
  go_upto_region 12 with fail
  refine wp_region_grA 38 (by kernel_rfl) (by decide) ?_
  refine wpGrA_take (i := 0) (.agg (c12)) rfl (by kernel_rfl) (by kernel_rfl) (fun _ _ _ h => h) (yG_part (by rfl) PT (.tmp 7) rfl p1 0 rfl PT (c12) (c12) (0, 0) _ S19.out.cl.2.2.1 HV12.out.all Try.underlying28 rfl HV12.out.info) ?_
  (try simp only [Act.put, List.getElem_toArray, List.getElem_cons_succ, List.getElem_cons_zero, List.setIfInBounds_toArray, List.set_cons_zero, List.set_cons_succ])
  refine wpGrA_take (i := 1) (.agg (c16)) rfl (by kernel_rfl) (by kernel_rfl) (fun _ _ _ h => h) (yG_part (by rfl) PT (.tmp 9) rfl p4 0 rfl PT (c16) (c16) (0, 0) _ S19.out.cl.2.1 HV16.out.all Try.underlying28 rfl HV16.out.info) ?_
  (try simp only [Act.put, List.getElem_toArray, List.getElem_cons_succ, List.getElem_cons_zero, List.setIfInBounds_toArray, List.set_cons_zero, List.set_cons_succ])
  obtain ⟨s5, g5, L5⟩ := CvAdd HV12.out HV16.out
  have G5 := hid g5
  clear g5
  refine wpGrA_take (i := 2) (.agg (s5)) rfl (by kernel_rfl) (by kernel_rfl) (fun _ _ _ h => h) (yG_call (by rfl) (fun w' => by go_simp) (fun w' hb => L5.out w')) ?_
  (try simp only [Act.put, List.getElem_toArray, List.getElem_cons_succ, List.getElem_cons_zero, List.setIfInBounds_toArray, List.set_cons_zero, List.set_cons_succ])
  refine wpGrA_take (i := 3) (.agg (c16)) rfl (by kernel_rfl) (by kernel_rfl) (fun _ _ _ h => h) (yG_part (by rfl) PT (.tmp 9) rfl p4 0 rfl PT (c16) (c16) (0, 0) _ S19.out.cl.2.1 HV16.out.all Try.underlying28 rfl HV16.out.info) ?_
  (try simp only [Act.put, List.getElem_toArray, List.getElem_cons_succ, List.getElem_cons_zero, List.setIfInBounds_toArray, List.set_cons_zero, List.set_cons_succ])
  refine wpGrA_take (i := 4) (.agg (c12)) rfl (by kernel_rfl) (by kernel_rfl) (fun _ _ _ h => h) (yG_part (by rfl) PT (.tmp 7) rfl p1 0 rfl PT (c12) (c12) (0, 0) _ S19.out.cl.2.2.1 HV12.out.all Try.underlying28 rfl HV12.out.info) ?_
  (try simp only [Act.put, List.getElem_toArray, List.getElem_cons_succ, List.getElem_cons_zero, List.setIfInBounds_toArray, List.set_cons_zero, List.set_cons_succ])
  obtain ⟨s6, g6, L6⟩ := CvAdd HV16.out HV12.out
  have G6 := hid g6
  clear g6
  refine wpGrA_take (i := 5) (.agg (s6)) rfl (by kernel_rfl) (by kernel_rfl) (fun _ _ _ h => h) (yG_call (by rfl) (fun w' => by go_simp) (fun w' hb => L6.out w')) ?_
  (try simp only [Act.put, List.getElem_toArray, List.getElem_cons_succ, List.getElem_cons_zero, List.setIfInBounds_toArray, List.set_cons_zero, List.set_cons_succ])
  have L7 := CvSameT G5.out G6.out (Pt.add_comm p q)
  refine wpGrA_take (i := 6) (.bool true) rfl (by kernel_rfl) (by kernel_rfl) (fun _ _ _ h => h) (yG_call (by rfl) (fun w' => by go_simp) (fun w' hb => L7.out w')) ?_
  (try simp only [Act.put, List.getElem_toArray, List.getElem_cons_succ, List.getElem_cons_zero, List.setIfInBounds_toArray, List.set_cons_zero, List.set_cons_succ])
  refine wpGrA_take (i := 7) (.bool false) rfl (by kernel_rfl) (by kernel_rfl) (fun _ _ _ h => h) (yG_val _ (by rfl) (fun w' _ => by (go_simp; try rfl))) ?_
  (try simp only [Act.put, List.getElem_toArray, List.getElem_cons_succ, List.getElem_cons_zero, List.setIfInBounds_toArray, List.set_cons_zero, List.set_cons_succ])
  refine wpGrA_take (i := 8) (.bool false) rfl (by kernel_rfl) (by kernel_rfl) (fun _ _ _ h => h) (yG_val _ (by rfl) (fun w' _ => by (go_simp; try rfl))) ?_
  (try simp only [Act.put, List.getElem_toArray, List.getElem_cons_succ, List.getElem_cons_zero, List.setIfInBounds_toArray, List.set_cons_zero, List.set_cons_succ])
  refine wpGrA_take (i := 9) (.agg (c12)) rfl (by kernel_rfl) (by kernel_rfl) (fun _ _ _ h => h) (yG_part (by rfl) PT (.tmp 7) rfl p1 0 rfl PT (c12) (c12) (0, 0) _ S19.out.cl.2.2.1 HV12.out.all Try.underlying28 rfl HV12.out.info) ?_
  (try simp only [Act.put, List.getElem_toArray, List.getElem_cons_succ, List.getElem_cons_zero, List.setIfInBounds_toArray, List.set_cons_zero, List.set_cons_succ])
  refine wpGrA_take (i := 10) (.agg (c16)) rfl (by kernel_rfl) (by kernel_rfl) (fun _ _ _ h => h) (yG_part (by rfl) PT (.tmp 9) rfl p4 0 rfl PT (c16) (c16) (0, 0) _ S19.out.cl.2.1 HV16.out.all Try.underlying28 rfl HV16.out.info) ?_
  (try simp only [Act.put, List.getElem_toArray, List.getElem_cons_succ, List.getElem_cons_zero, List.setIfInBounds_toArray, List.set_cons_zero, List.set_cons_succ])
  obtain ⟨s8, g8, L8⟩ := CvAdd HV12.out HV16.out
  have G8 := hid g8
  clear g8
  refine wpGrA_take (i := 11) (.agg (s8)) rfl (by kernel_rfl) (by kernel_rfl) (fun _ _ _ h => h) (yG_call (by rfl) (fun w' => by go_simp) (fun w' hb => L8.out w')) ?_
  (try simp only [Act.put, List.getElem_toArray, List.getElem_cons_succ, List.getElem_cons_zero, List.setIfInBounds_toArray, List.set_cons_zero, List.set_cons_succ])
  refine wpGrA_take (i := 12) (.agg (c19)) rfl (by kernel_rfl) (by kernel_rfl) (fun _ _ _ h => h) (yG_part (by rfl) PT (.tmp 11) rfl p7 0 rfl PT (c19) (c19) (0, 0) _ S19.out.cl.1 HV19.out.all Try.underlying28 rfl HV19.out.info) ?_
  (try simp only [Act.put, List.getElem_toArray, List.getElem_cons_succ, List.getElem_cons_zero, List.setIfInBounds_toArray, List.set_cons_zero, List.set_cons_succ])
  obtain ⟨s9, g9, L9⟩ := CvAdd G8.out HV19.out
  have G9 := hid g9
  clear g9
  refine wpGrA_take (i := 13) (.agg (s9)) rfl (by kernel_rfl) (by kernel_rfl) (fun _ _ _ h => h) (yG_call (by rfl) (fun w' => by go_simp) (fun w' hb => L9.out w')) ?_
  (try simp only [Act.put, List.getElem_toArray, List.getElem_cons_succ, List.getElem_cons_zero, List.setIfInBounds_toArray, List.set_cons_zero, List.set_cons_succ])
  refine wpGrA_take (i := 14) (.agg (c12)) rfl (by kernel_rfl) (by kernel_rfl) (fun _ _ _ h => h) (yG_part (by rfl) PT (.tmp 7) rfl p1 0 rfl PT (c12) (c12) (0, 0) _ S19.out.cl.2.2.1 HV12.out.all Try.underlying28 rfl HV12.out.info) ?_
  (try simp only [Act.put, List.getElem_toArray, List.getElem_cons_succ, List.getElem_cons_zero, List.setIfInBounds_toArray, List.set_cons_zero, List.set_cons_succ])
  refine wpGrA_take (i := 15) (.agg (c16)) rfl (by kernel_rfl) (by kernel_rfl) (fun _ _ _ h => h) (yG_part (by rfl) PT (.tmp 9) rfl p4 0 rfl PT (c16) (c16) (0, 0) _ S19.out.cl.2.1 HV16.out.all Try.underlying28 rfl HV16.out.info) ?_
  (try simp only [Act.put, List.getElem_toArray, List.getElem_cons_succ, List.getElem_cons_zero, List.setIfInBounds_toArray, List.set_cons_zero, List.set_cons_succ])
  refine wpGrA_take (i := 16) (.agg (c19)) rfl (by kernel_rfl) (by kernel_rfl) (fun _ _ _ h => h) (yG_part (by rfl) PT (.tmp 11) rfl p7 0 rfl PT (c19) (c19) (0, 0) _ S19.out.cl.1 HV19.out.all Try.underlying28 rfl HV19.out.info) ?_
  (try simp only [Act.put, List.getElem_toArray, List.getElem_cons_succ, List.getElem_cons_zero, List.setIfInBounds_toArray, List.set_cons_zero, List.set_cons_succ])
  obtain ⟨s10, g10, L10⟩ := CvAdd HV16.out HV19.out
  have G10 := hid g10
  clear g10
  refine wpGrA_take (i := 17) (.agg (s10)) rfl (by kernel_rfl) (by kernel_rfl) (fun _ _ _ h => h) (yG_call (by rfl) (fun w' => by go_simp) (fun w' hb => L10.out w')) ?_
  (try simp only [Act.put, List.getElem_toArray, List.getElem_cons_succ, List.getElem_cons_zero, List.setIfInBounds_toArray, List.set_cons_zero, List.set_cons_succ])
  obtain ⟨s11, g11, L11⟩ := CvAdd HV12.out G10.out
  have G11 := hid g11
  clear g11
  refine wpGrA_take (i := 18) (.agg (s11)) rfl (by kernel_rfl) (by kernel_rfl) (fun _ _ _ h => h) (yG_call (by rfl) (fun w' => by go_simp) (fun w' hb => L11.out w')) ?_
  (try simp only [Act.put, List.getElem_toArray, List.getElem_cons_succ, List.getElem_cons_zero, List.setIfInBounds_toArray, List.set_cons_zero, List.set_cons_succ])
  have L12 := CvSameT G9.out G11.out (Pt.add_assoc HV12.out.on HV16.out.on HV19.out.on)
  refine wpGrA_take (i := 19) (.bool true) rfl (by kernel_rfl) (by kernel_rfl) (fun _ _ _ h => h) (yG_call (by rfl) (fun w' => by go_simp) (fun w' hb => L12.out w')) ?_
  (try simp only [Act.put, List.getElem_toArray, List.getElem_cons_succ, List.getElem_cons_zero, List.setIfInBounds_toArray, List.set_cons_zero, List.set_cons_succ])
  refine wpGrA_take (i := 20) (.bool false) rfl (by kernel_rfl) (by kernel_rfl) (fun _ _ _ h => h) (yG_val _ (by rfl) (fun w' _ => by (go_simp; try rfl))) ?_
  (try simp only [Act.put, List.getElem_toArray, List.getElem_cons_succ, List.getElem_cons_zero, List.setIfInBounds_toArray, List.set_cons_zero, List.set_cons_succ])
  refine wpGrA_take (i := 21) (.bool false) rfl (by kernel_rfl) (by kernel_rfl) (fun _ _ _ h => h) (yG_val _ (by rfl) (fun w' _ => by (go_simp; try rfl))) ?_
  (try simp only [Act.put, List.getElem_toArray, List.getElem_cons_succ, List.getElem_cons_zero, List.setIfInBounds_toArray, List.set_cons_zero, List.set_cons_succ])
  refine wpGrA_take (i := 22) (.bool false) rfl (by kernel_rfl) (by kernel_rfl) (fun _ _ _ h => h) (yG_val _ (by rfl) (fun w' _ => by (go_simp; try rfl))) ?_
  (try simp only [Act.put, List.getElem_toArray, List.getElem_cons_succ, List.getElem_cons_zero, List.setIfInBounds_toArray, List.set_cons_zero, List.set_cons_succ])
  refine wpGrA_take (i := 23) (.agg (c12)) rfl (by kernel_rfl) (by kernel_rfl) (fun _ _ _ h => h) (yG_part (by rfl) PT (.tmp 7) rfl p1 0 rfl PT (c12) (c12) (0, 0) _ S19.out.cl.2.2.1 HV12.out.all Try.underlying28 rfl HV12.out.info) ?_
  (try simp only [Act.put, List.getElem_toArray, List.getElem_cons_succ, List.getElem_cons_zero, List.setIfInBounds_toArray, List.set_cons_zero, List.set_cons_succ])
  refine wpGrA_take (i := 24) (.agg (c12)) rfl (by kernel_rfl) (by kernel_rfl) (fun _ _ _ h => h) (yG_part (by rfl) PT (.tmp 7) rfl p1 0 rfl PT (c12) (c12) (0, 0) _ S19.out.cl.2.2.1 HV12.out.all Try.underlying28 rfl HV12.out.info) ?_
  (try simp only [Act.put, List.getElem_toArray, List.getElem_cons_succ, List.getElem_cons_zero, List.setIfInBounds_toArray, List.set_cons_zero, List.set_cons_succ])
  obtain ⟨s13, g13, L13⟩ := CvNeg HV12.out
  have G13 := hid g13
  clear g13
  refine wpGrA_take (i := 25) (.agg (s13)) rfl (by kernel_rfl) (by kernel_rfl) (fun _ _ _ h => h) (yG_call (by rfl) (fun w' => by go_simp) (fun w' hb => L13.out w')) ?_
  (try simp only [Act.put, List.getElem_toArray, List.getElem_cons_succ, List.getElem_cons_zero, List.setIfInBounds_toArray, List.set_cons_zero, List.set_cons_succ])
  obtain ⟨s14, g14, L14⟩ := CvAdd HV12.out G13.out
  have G14 := hid g14
  clear g14
  refine wpGrA_take (i := 26) (.agg (s14)) rfl (by kernel_rfl) (by kernel_rfl) (fun _ _ _ h => h) (yG_call (by rfl) (fun w' => by go_simp) (fun w' hb => L14.out w')) ?_
  (try simp only [Act.put, List.getElem_toArray, List.getElem_cons_succ, List.getElem_cons_zero, List.setIfInBounds_toArray, List.set_cons_zero, List.set_cons_succ])
  obtain ⟨s15, g15, L15⟩ := CvNothing
  have G15 := hid g15
  clear g15
  refine wpGrA_take (i := 27) (.agg (s15)) rfl (by kernel_rfl) (by kernel_rfl) (fun _ _ _ h => h) (yG_call (by rfl) (fun w' => by go_simp) (fun w' hb => L15.out w')) ?_
  (try simp only [Act.put, List.getElem_toArray, List.getElem_cons_succ, List.getElem_cons_zero, List.setIfInBounds_toArray, List.set_cons_zero, List.set_cons_succ])
  have L16 := CvSameT G14.out G15.out (by rw [Pt.add_comm]; exact Pt.neg_add HV12.out.on)
  refine wpGrA_take (i := 28) (.bool true) rfl (by kernel_rfl) (by kernel_rfl) (fun _ _ _ h => h) (yG_call (by rfl) (fun w' => by go_simp) (fun w' hb => L16.out w')) ?_
  (try simp only [Act.put, List.getElem_toArray, List.getElem_cons_succ, List.getElem_cons_zero, List.setIfInBounds_toArray, List.set_cons_zero, List.set_cons_succ])
  refine wpGrA_take (i := 29) (.bool false) rfl (by kernel_rfl) (by kernel_rfl) (fun _ _ _ h => h) (yG_val _ (by rfl) (fun w' _ => by (go_simp; try rfl))) ?_
  (try simp only [Act.put, List.getElem_toArray, List.getElem_cons_succ, List.getElem_cons_zero, List.setIfInBounds_toArray, List.set_cons_zero, List.set_cons_succ])
  refine wpGrA_take (i := 30) (.bool false) rfl (by kernel_rfl) (by kernel_rfl) (fun _ _ _ h => h) (yG_val _ (by rfl) (fun w' _ => by (go_simp; try rfl))) ?_
  (try simp only [Act.put, List.getElem_toArray, List.getElem_cons_succ, List.getElem_cons_zero, List.setIfInBounds_toArray, List.set_cons_zero, List.set_cons_succ])
  refine wpGrA_take (i := 31) (.bool false) rfl (by kernel_rfl) (by kernel_rfl) (fun _ _ _ h => h) (yG_val _ (by rfl) (fun w' _ => by (go_simp; try rfl))) ?_
  (try simp only [Act.put, List.getElem_toArray, List.getElem_cons_succ, List.getElem_cons_zero, List.setIfInBounds_toArray, List.set_cons_zero, List.set_cons_succ])
  refine wpGrA_take (i := 32) (.agg (c12)) rfl (by kernel_rfl) (by kernel_rfl) (fun _ _ _ h => h) (yG_part (by rfl) PT (.tmp 7) rfl p1 0 rfl PT (c12) (c12) (0, 0) _ S19.out.cl.2.2.1 HV12.out.all Try.underlying28 rfl HV12.out.info) ?_
  (try simp only [Act.put, List.getElem_toArray, List.getElem_cons_succ, List.getElem_cons_zero, List.setIfInBounds_toArray, List.set_cons_zero, List.set_cons_succ])
  refine wpGrA_take (i := 33) (.agg (zP)) rfl (by kernel_rfl) (by kernel_rfl) (fun _ _ _ h => h) (yG_build (by rfl) PT _ rfl [] rfl _ builtP) ?_
  (try simp only [Act.put, List.getElem_toArray, List.getElem_cons_succ, List.getElem_cons_zero, List.setIfInBounds_toArray, List.set_cons_zero, List.set_cons_succ])
  obtain ⟨s17, g17, L17⟩ := CvAdd HV12.out zP_is
  have G17 := hid g17
  clear g17
  refine wpGrA_take (i := 34) (.agg (s17)) rfl (by kernel_rfl) (by kernel_rfl) (fun _ _ _ h => h) (yG_call (by rfl) (fun w' => by go_simp) (fun w' hb => L17.out w')) ?_
  (try simp only [Act.put, List.getElem_toArray, List.getElem_cons_succ, List.getElem_cons_zero, List.setIfInBounds_toArray, List.set_cons_zero, List.set_cons_succ])
  refine wpGrA_take (i := 35) (.agg (c12)) rfl (by kernel_rfl) (by kernel_rfl) (fun _ _ _ h => h) (yG_part (by rfl) PT (.tmp 7) rfl p1 0 rfl PT (c12) (c12) (0, 0) _ S19.out.cl.2.2.1 HV12.out.all Try.underlying28 rfl HV12.out.info) ?_
  (try simp only [Act.put, List.getElem_toArray, List.getElem_cons_succ, List.getElem_cons_zero, List.setIfInBounds_toArray, List.set_cons_zero, List.set_cons_succ])
  have L18 := CvSameT G17.out HV12.out (Pt.add_zero HV12.out.on)
  refine wpGrA_take (i := 36) (.bool true) rfl (by kernel_rfl) (by kernel_rfl) (fun _ _ _ h => h) (yG_call (by rfl) (fun w' => by go_simp) (fun w' hb => L18.out w')) ?_
  (try simp only [Act.put, List.getElem_toArray, List.getElem_cons_succ, List.getElem_cons_zero, List.setIfInBounds_toArray, List.set_cons_zero, List.set_cons_succ])
  refine wpGrA_take (i := 37) (.bool false) rfl (by kernel_rfl) (by kernel_rfl) (fun _ _ _ h => h) (yG_val _ (by rfl) (fun w' _ => by (go_simp; try rfl))) ?_
  (try simp only [Act.put, List.getElem_toArray, List.getElem_cons_succ, List.getElem_cons_zero, List.setIfInBounds_toArray, List.set_cons_zero, List.set_cons_succ])
  refine wpGrA_end (by kernel_rfl) ?_
  intro w20 hb
  have S20 := hid (S19.out.on hb)
  clear hb S19
  refine wpLA_here ?_
  refine wpLA_take (.bool false) (yG_val _ (by rfl) (fun w' _ => by (go_simp; try rfl))) ?_
  (try simp only [Act.put, List.getElem_toArray, List.getElem_cons_succ, List.getElem_cons_zero, List.setIfInBounds_toArray, List.set_cons_zero, List.set_cons_succ])
  refine wpLA_end ?_
  intro w21 hb
  have S21 := hid (S20.out.on hb)
  clear hb S20
  go_upto_region 14 with fail
  refine wpLA_start ?_
  refine wpLA_take (.agg (c12)) (yG_part (by rfl) PT (.tmp 7) rfl p1 0 rfl PT (c12) (c12) (0, 0) _ S21.out.cl.2.2.1 HV12.out.all Try.underlying28 rfl HV12.out.info) ?_
  (try simp only [Act.put, List.getElem_toArray, List.getElem_cons_succ, List.getElem_cons_zero, List.setIfInBounds_toArray, List.set_cons_zero, List.set_cons_succ])
  refine wpLA_take (.agg (c16)) (yG_part (by rfl) PT (.tmp 9) rfl p4 0 rfl PT (c16) (c16) (0, 0) _ S21.out.cl.2.1 HV16.out.all Try.underlying28 rfl HV16.out.info) ?_
  (try simp only [Act.put, List.getElem_toArray, List.getElem_cons_succ, List.getElem_cons_zero, List.setIfInBounds_toArray, List.set_cons_zero, List.set_cons_succ])
  obtain ⟨s19, g19, L19⟩ := CvAdd HV12.out HV16.out
  have G19 := hid g19
  clear g19
  refine wpLA_take (.agg (s19)) (yG_call (by rfl) (fun w' => by go_simp) (fun w' hb => L19.out w')) ?_
  (try simp only [Act.put, List.getElem_toArray, List.getElem_cons_succ, List.getElem_cons_zero, List.setIfInBounds_toArray, List.set_cons_zero, List.set_cons_succ])
  have L20 := CvBytes G19.out
  refine wpLA_bytes (pB (p.add q)) (by rfl) (fun w' => by go_simp) (fun w' hb => L20.out w') ?_
  intro A22 c22 w22 hb hs
  have S22 : Hid (St w w22 [(p7, c19, PT), (p4, c16, PT), (p1, c12, PT)] [(A22, c22, bvs (pB (p.add q)))]) := hid ((S21.out.on hb).more hs)
  clear hb hs S21
  (try simp only [Act.put, List.getElem_toArray, List.getElem_cons_succ, List.getElem_cons_zero, List.setIfInBounds_toArray, List.set_cons_zero, List.set_cons_succ])
  obtain ⟨s21, g21, L21⟩ := CvOf (pB (p.add q)) (by rw [pB_length]; omega)
  have e21 := ptOf_bytes (Pt.add_on HV12.out.on HV16.out.on)
  rw [show ptO (pB (p.add q)) = p.add q by unfold ptO; rw [e21]; rfl] at g21
  rw [e21] at L21
  have G21 := hid g21
  clear g21 e21
  refine wpLA_take (.tuple #[(.agg (s21)), (.bool true)]) (yG_call (by rfl) (fun w' => by go_simp) (fun w' hb => L21.out _ _ w' (S22.out.on hb).sq.1)) ?_
  (try simp only [Act.put, List.getElem_toArray, List.getElem_cons_succ, List.getElem_cons_zero, List.setIfInBounds_toArray, List.set_cons_zero, List.set_cons_succ])
  refine wpLA_take (.tuple #[(.agg (s21)), (.bool true)]) (yG_val _ (by rfl) (fun w' _ => by (go_simp; try rfl))) ?_
  (try simp only [Act.put, List.getElem_toArray, List.getElem_cons_succ, List.getElem_cons_zero, List.setIfInBounds_toArray, List.set_cons_zero, List.set_cons_succ])
  refine wpLA_take (.agg (s21)) (yG_val _ (by rfl) (fun w' _ => by (go_simp; try rfl))) ?_
  (try simp only [Act.put, List.getElem_toArray, List.getElem_cons_succ, List.getElem_cons_zero, List.setIfInBounds_toArray, List.set_cons_zero, List.set_cons_succ])
  refine wpLA_take (.bool true) (yG_val _ (by rfl) (fun w' _ => by (go_simp; try rfl))) ?_
  (try simp only [Act.put, List.getElem_toArray, List.getElem_cons_succ, List.getElem_cons_zero, List.setIfInBounds_toArray, List.set_cons_zero, List.set_cons_succ])
  refine wpLA_alloc (by rfl) rfl zeroP ?_
  intro p23 w23 hp hz hb
  have N23 := hid (S22.out.sq.far hp)
  have S23 : Hid (St w w23 [(p23, zP, PT), (p7, c19, PT), (p4, c16, PT), (p1, c12, PT)] [(A22, c22, bvs (pB (p.add q)))]) := hid (S22.out.alloc hb hp hz)
  clear hp hz hb S22
  (try simp only [Act.put, List.getElem_toArray, List.getElem_cons_succ, List.getElem_cons_zero, List.setIfInBounds_toArray, List.set_cons_zero, List.set_cons_succ])
  refine wpLA_store rfl PT (.tmp 13) (.tmp 90) rfl p23 (s21) rfl rfl PT (zP) S23.out.cl.1 G21.out.info (zP_is.size2 G21.out) G21.out.one ?_
  intro wx hb
  have S24 : Hid (St w (wx.setRow p23 (s21)) [(p23, s21, PT), (p7, c19, PT), (p4, c16, PT), (p1, c12, PT)] [(A22, c22, bvs (pB (p.add q)))]) := hid ((S23.out.on hb).put 0 rfl N23.out)
  clear hb S23
  generalize wx.setRow p23 (s21) = w24 at S24 ⊢
  (try simp only [Act.put, List.getElem_toArray, List.getElem_cons_succ, List.getElem_cons_zero, List.setIfInBounds_toArray, List.set_cons_zero, List.set_cons_succ])
  refine wpLA_take (.bool true) (yG_val _ (by rfl) (fun w' _ => by (go_simp; try rfl))) ?_
  (try simp only [Act.put, List.getElem_toArray, List.getElem_cons_succ, List.getElem_cons_zero, List.setIfInBounds_toArray, List.set_cons_zero, List.set_cons_succ])
  refine wpLA_end ?_
  intro w25 hb
  have S25 := hid (S24.out.on hb)
  clear hb S24
  go_upto_region 15 with fail
  refine wp_region_grA 33 (by kernel_rfl) (by decide) ?_
  refine wpGrA_take (i := 0) (.bool true) rfl (by kernel_rfl) (by kernel_rfl) (fun _ _ _ h => h) (yG_val _ (by rfl) (fun w' _ => by (go_simp; try rfl))) ?_
  (try simp only [Act.put, List.getElem_toArray, List.getElem_cons_succ, List.getElem_cons_zero, List.setIfInBounds_toArray, List.set_cons_zero, List.set_cons_succ])
  refine wpGrA_take (i := 1) (.bool true) rfl (by kernel_rfl) (by kernel_rfl) (fun _ _ _ h => h) (yG_val _ (by rfl) (fun w' _ => by (go_simp; try rfl))) ?_
  (try simp only [Act.put, List.getElem_toArray, List.getElem_cons_succ, List.getElem_cons_zero, List.setIfInBounds_toArray, List.set_cons_zero, List.set_cons_succ])
  refine wpGrA_take (i := 2) (.agg (s21)) rfl (by kernel_rfl) (by kernel_rfl) (fun _ _ _ h => h) (yG_part (by rfl) PT (.tmp 13) rfl p23 0 rfl PT (s21) (s21) (0, 0) _ S25.out.cl.1 G21.out.all Try.underlying28 rfl G21.out.info) ?_
  (try simp only [Act.put, List.getElem_toArray, List.getElem_cons_succ, List.getElem_cons_zero, List.setIfInBounds_toArray, List.set_cons_zero, List.set_cons_succ])
  refine wpGrA_take (i := 3) (.agg (c12)) rfl (by kernel_rfl) (by kernel_rfl) (fun _ _ _ h => h) (yG_part (by rfl) PT (.tmp 7) rfl p1 0 rfl PT (c12) (c12) (0, 0) _ S25.out.cl.2.2.2.1 HV12.out.all Try.underlying28 rfl HV12.out.info) ?_
  (try simp only [Act.put, List.getElem_toArray, List.getElem_cons_succ, List.getElem_cons_zero, List.setIfInBounds_toArray, List.set_cons_zero, List.set_cons_succ])
  refine wpGrA_take (i := 4) (.agg (c16)) rfl (by kernel_rfl) (by kernel_rfl) (fun _ _ _ h => h) (yG_part (by rfl) PT (.tmp 9) rfl p4 0 rfl PT (c16) (c16) (0, 0) _ S25.out.cl.2.2.1 HV16.out.all Try.underlying28 rfl HV16.out.info) ?_
  (try simp only [Act.put, List.getElem_toArray, List.getElem_cons_succ, List.getElem_cons_zero, List.setIfInBounds_toArray, List.set_cons_zero, List.set_cons_succ])
  obtain ⟨s22, g22, L22⟩ := CvAdd HV12.out HV16.out
  have G22 := hid g22
  clear g22
  refine wpGrA_take (i := 5) (.agg (s22)) rfl (by kernel_rfl) (by kernel_rfl) (fun _ _ _ h => h) (yG_call (by rfl) (fun w' => by go_simp) (fun w' hb => L22.out w')) ?_
  (try simp only [Act.put, List.getElem_toArray, List.getElem_cons_succ, List.getElem_cons_zero, List.setIfInBounds_toArray, List.set_cons_zero, List.set_cons_succ])
  have L23 := CvSameT G21.out G22.out rfl
  refine wpGrA_take (i := 6) (.bool true) rfl (by kernel_rfl) (by kernel_rfl) (fun _ _ _ h => h) (yG_call (by rfl) (fun w' => by go_simp) (fun w' hb => L23.out w')) ?_
  (try simp only [Act.put, List.getElem_toArray, List.getElem_cons_succ, List.getElem_cons_zero, List.setIfInBounds_toArray, List.set_cons_zero, List.set_cons_succ])
  refine wpGrA_take (i := 7) (.bool true) rfl (by kernel_rfl) (by kernel_rfl) (fun _ _ _ h => h) (yG_val _ (by rfl) (fun w' _ => by (go_simp; try rfl))) ?_
  (try simp only [Act.put, List.getElem_toArray, List.getElem_cons_succ, List.getElem_cons_zero, List.setIfInBounds_toArray, List.set_cons_zero, List.set_cons_succ])
  refine wpGrA_take (i := 8) (.bool true) rfl (by kernel_rfl) (by kernel_rfl) (fun _ _ _ h => h) (yG_val _ (by rfl) (fun w' _ => by (go_simp; try rfl))) ?_
  (try simp only [Act.put, List.getElem_toArray, List.getElem_cons_succ, List.getElem_cons_zero, List.setIfInBounds_toArray, List.set_cons_zero, List.set_cons_succ])
  refine wpGrA_take (i := 9) (.agg (c12)) rfl (by kernel_rfl) (by kernel_rfl) (fun _ _ _ h => h) (yG_part (by rfl) PT (.tmp 7) rfl p1 0 rfl PT (c12) (c12) (0, 0) _ S25.out.cl.2.2.2.1 HV12.out.all Try.underlying28 rfl HV12.out.info) ?_
  (try simp only [Act.put, List.getElem_toArray, List.getElem_cons_succ, List.getElem_cons_zero, List.setIfInBounds_toArray, List.set_cons_zero, List.set_cons_succ])
  obtain ⟨s24, g24, L24⟩ := CvNeg HV12.out
  have G24 := hid g24
  clear g24
  refine wpGrA_take (i := 10) (.agg (s24)) rfl (by kernel_rfl) (by kernel_rfl) (fun _ _ _ h => h) (yG_call (by rfl) (fun w' => by go_simp) (fun w' hb => L24.out w')) ?_
  (try simp only [Act.put, List.getElem_toArray, List.getElem_cons_succ, List.getElem_cons_zero, List.setIfInBounds_toArray, List.set_cons_zero, List.set_cons_succ])
  obtain ⟨s25, g25, L25⟩ := CvNeg G24.out
  have G25 := hid g25
  clear g25
  refine wpGrA_take (i := 11) (.agg (s25)) rfl (by kernel_rfl) (by kernel_rfl) (fun _ _ _ h => h) (yG_call (by rfl) (fun w' => by go_simp) (fun w' hb => L25.out w')) ?_
  (try simp only [Act.put, List.getElem_toArray, List.getElem_cons_succ, List.getElem_cons_zero, List.setIfInBounds_toArray, List.set_cons_zero, List.set_cons_succ])
  refine wpGrA_take (i := 12) (.agg (c12)) rfl (by kernel_rfl) (by kernel_rfl) (fun _ _ _ h => h) (yG_part (by rfl) PT (.tmp 7) rfl p1 0 rfl PT (c12) (c12) (0, 0) _ S25.out.cl.2.2.2.1 HV12.out.all Try.underlying28 rfl HV12.out.info) ?_
  (try simp only [Act.put, List.getElem_toArray, List.getElem_cons_succ, List.getElem_cons_zero, List.setIfInBounds_toArray, List.set_cons_zero, List.set_cons_succ])
  have L26 := CvSameT G25.out HV12.out (neg_neg_pt p)
  refine wpGrA_take (i := 13) (.bool true) rfl (by kernel_rfl) (by kernel_rfl) (fun _ _ _ h => h) (yG_call (by rfl) (fun w' => by go_simp) (fun w' hb => L26.out w')) ?_
  (try simp only [Act.put, List.getElem_toArray, List.getElem_cons_succ, List.getElem_cons_zero, List.setIfInBounds_toArray, List.set_cons_zero, List.set_cons_succ])
  refine wpGrA_take (i := 14) (.bool true) rfl (by kernel_rfl) (by kernel_rfl) (fun _ _ _ h => h) (yG_val _ (by rfl) (fun w' _ => by (go_simp; try rfl))) ?_
  (try simp only [Act.put, List.getElem_toArray, List.getElem_cons_succ, List.getElem_cons_zero, List.setIfInBounds_toArray, List.set_cons_zero, List.set_cons_succ])
  refine wpGrA_take (i := 15) (.bool true) rfl (by kernel_rfl) (by kernel_rfl) (fun _ _ _ h => h) (yG_val _ (by rfl) (fun w' _ => by (go_simp; try rfl))) ?_
  (try simp only [Act.put, List.getElem_toArray, List.getElem_cons_succ, List.getElem_cons_zero, List.setIfInBounds_toArray, List.set_cons_zero, List.set_cons_succ])
  refine wpGrA_take (i := 16) (.agg (c12)) rfl (by kernel_rfl) (by kernel_rfl) (fun _ _ _ h => h) (yG_part (by rfl) PT (.tmp 7) rfl p1 0 rfl PT (c12) (c12) (0, 0) _ S25.out.cl.2.2.2.1 HV12.out.all Try.underlying28 rfl HV12.out.info) ?_
  (try simp only [Act.put, List.getElem_toArray, List.getElem_cons_succ, List.getElem_cons_zero, List.setIfInBounds_toArray, List.set_cons_zero, List.set_cons_succ])
  have L27 := CvRight HV12.out
  refine wpGrA_take (i := 17) (.bool true) rfl (by kernel_rfl) (by kernel_rfl) (fun _ _ _ h => h) (yG_call (by rfl) (fun w' => by go_simp) (fun w' hb => L27.out w')) ?_
  (try simp only [Act.put, List.getElem_toArray, List.getElem_cons_succ, List.getElem_cons_zero, List.setIfInBounds_toArray, List.set_cons_zero, List.set_cons_succ])
  refine wpGrA_take (i := 18) (.bool true) rfl (by kernel_rfl) (by kernel_rfl) (fun _ _ _ h => h) (yG_val _ (by rfl) (fun w' _ => by (go_simp; try rfl))) ?_
  (try simp only [Act.put, List.getElem_toArray, List.getElem_cons_succ, List.getElem_cons_zero, List.setIfInBounds_toArray, List.set_cons_zero, List.set_cons_succ])
  refine wpGrA_take (i := 19) (.bool true) rfl (by kernel_rfl) (by kernel_rfl) (fun _ _ _ h => h) (yG_val _ (by rfl) (fun w' _ => by (go_simp; try rfl))) ?_
  (try simp only [Act.put, List.getElem_toArray, List.getElem_cons_succ, List.getElem_cons_zero, List.setIfInBounds_toArray, List.set_cons_zero, List.set_cons_succ])
  refine wpGrA_take (i := 20) (.agg (c16)) rfl (by kernel_rfl) (by kernel_rfl) (fun _ _ _ h => h) (yG_part (by rfl) PT (.tmp 9) rfl p4 0 rfl PT (c16) (c16) (0, 0) _ S25.out.cl.2.2.1 HV16.out.all Try.underlying28 rfl HV16.out.info) ?_
  (try simp only [Act.put, List.getElem_toArray, List.getElem_cons_succ, List.getElem_cons_zero, List.setIfInBounds_toArray, List.set_cons_zero, List.set_cons_succ])
  have L28 := CvRight HV16.out
  refine wpGrA_take (i := 21) (.bool true) rfl (by kernel_rfl) (by kernel_rfl) (fun _ _ _ h => h) (yG_call (by rfl) (fun w' => by go_simp) (fun w' hb => L28.out w')) ?_
  (try simp only [Act.put, List.getElem_toArray, List.getElem_cons_succ, List.getElem_cons_zero, List.setIfInBounds_toArray, List.set_cons_zero, List.set_cons_succ])
  refine wpGrA_take (i := 22) (.bool true) rfl (by kernel_rfl) (by kernel_rfl) (fun _ _ _ h => h) (yG_val _ (by rfl) (fun w' _ => by (go_simp; try rfl))) ?_
  (try simp only [Act.put, List.getElem_toArray, List.getElem_cons_succ, List.getElem_cons_zero, List.setIfInBounds_toArray, List.set_cons_zero, List.set_cons_succ])
  refine wpGrA_take (i := 23) (.bool true) rfl (by kernel_rfl) (by kernel_rfl) (fun _ _ _ h => h) (yG_val _ (by rfl) (fun w' _ => by (go_simp; try rfl))) ?_
  (try simp only [Act.put, List.getElem_toArray, List.getElem_cons_succ, List.getElem_cons_zero, List.setIfInBounds_toArray, List.set_cons_zero, List.set_cons_succ])
  refine wpGrA_take (i := 24) (.agg (c12)) rfl (by kernel_rfl) (by kernel_rfl) (fun _ _ _ h => h) (yG_part (by rfl) PT (.tmp 7) rfl p1 0 rfl PT (c12) (c12) (0, 0) _ S25.out.cl.2.2.2.1 HV12.out.all Try.underlying28 rfl HV12.out.info) ?_
  (try simp only [Act.put, List.getElem_toArray, List.getElem_cons_succ, List.getElem_cons_zero, List.setIfInBounds_toArray, List.set_cons_zero, List.set_cons_succ])
  refine wpGrA_take (i := 25) (.agg (c19)) rfl (by kernel_rfl) (by kernel_rfl) (fun _ _ _ h => h) (yG_part (by rfl) PT (.tmp 11) rfl p7 0 rfl PT (c19) (c19) (0, 0) _ S25.out.cl.2.1 HV19.out.all Try.underlying28 rfl HV19.out.info) ?_
  (try simp only [Act.put, List.getElem_toArray, List.getElem_cons_succ, List.getElem_cons_zero, List.setIfInBounds_toArray, List.set_cons_zero, List.set_cons_succ])
  obtain ⟨s29, g29, L29⟩ := CvAdd HV12.out HV19.out
  have G29 := hid g29
  clear g29
  refine wpGrA_take (i := 26) (.agg (s29)) rfl (by kernel_rfl) (by kernel_rfl) (fun _ _ _ h => h) (yG_call (by rfl) (fun w' => by go_simp) (fun w' hb => L29.out w')) ?_
  (try simp only [Act.put, List.getElem_toArray, List.getElem_cons_succ, List.getElem_cons_zero, List.setIfInBounds_toArray, List.set_cons_zero, List.set_cons_succ])
  have L30 := CvRight G29.out
  refine wpGrA_take (i := 27) (.bool true) rfl (by kernel_rfl) (by kernel_rfl) (fun _ _ _ h => h) (yG_call (by rfl) (fun w' => by go_simp) (fun w' hb => L30.out w')) ?_
  (try simp only [Act.put, List.getElem_toArray, List.getElem_cons_succ, List.getElem_cons_zero, List.setIfInBounds_toArray, List.set_cons_zero, List.set_cons_succ])
  refine wpGrA_take (i := 28) (.bool true) rfl (by kernel_rfl) (by kernel_rfl) (fun _ _ _ h => h) (yG_val _ (by rfl) (fun w' _ => by (go_simp; try rfl))) ?_
  (try simp only [Act.put, List.getElem_toArray, List.getElem_cons_succ, List.getElem_cons_zero, List.setIfInBounds_toArray, List.set_cons_zero, List.set_cons_succ])
  refine wpGrA_take (i := 29) (.bool true) rfl (by kernel_rfl) (by kernel_rfl) (fun _ _ _ h => h) (yG_val _ (by rfl) (fun w' _ => by (go_simp; try rfl))) ?_
  (try simp only [Act.put, List.getElem_toArray, List.getElem_cons_succ, List.getElem_cons_zero, List.setIfInBounds_toArray, List.set_cons_zero, List.set_cons_succ])
  refine wpGrA_take (i := 30) (.agg (zP)) rfl (by kernel_rfl) (by kernel_rfl) (fun _ _ _ h => h) (yG_build (by rfl) PT _ rfl [] rfl _ builtP) ?_
  (try simp only [Act.put, List.getElem_toArray, List.getElem_cons_succ, List.getElem_cons_zero, List.setIfInBounds_toArray, List.set_cons_zero, List.set_cons_succ])
  have L31 := CvRight zP_is
  refine wpGrA_take (i := 31) (.bool true) rfl (by kernel_rfl) (by kernel_rfl) (fun _ _ _ h => h) (yG_call (by rfl) (fun w' => by go_simp) (fun w' hb => L31.out w')) ?_
  (try simp only [Act.put, List.getElem_toArray, List.getElem_cons_succ, List.getElem_cons_zero, List.setIfInBounds_toArray, List.set_cons_zero, List.set_cons_succ])
  refine wpGrA_take (i := 32) (.bool true) rfl (by kernel_rfl) (by kernel_rfl) (fun _ _ _ h => h) (yG_val _ (by rfl) (fun w' _ => by (go_simp; try rfl))) ?_
  (try simp only [Act.put, List.getElem_toArray, List.getElem_cons_succ, List.getElem_cons_zero, List.setIfInBounds_toArray, List.set_cons_zero, List.set_cons_succ])
  refine wpGrA_end (by kernel_rfl) ?_
  intro w26 hb
  have S26 := hid (S25.out.on hb)
  clear hb S25
  refine wpLA_here ?_
  refine wpLA_take (.bool true) (yG_val _ (by rfl) (fun w' _ => by (go_simp; try rfl))) ?_
  (try simp only [Act.put, List.getElem_toArray, List.getElem_cons_succ, List.getElem_cons_zero, List.setIfInBounds_toArray, List.set_cons_zero, List.set_cons_succ])
  refine wpLA_end ?_
  intro w27 hb
  have S27 := hid (S26.out.on hb)
  clear hb S26
  go_wp2_with fail
  go_ret
  exact ⟨rfl, S27.out.below⟩
end Go.Proofs.Ytealegfmmeklcaa
