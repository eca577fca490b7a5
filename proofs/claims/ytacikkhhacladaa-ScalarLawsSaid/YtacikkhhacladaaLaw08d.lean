/-
  The statement ScalarLaws: the walk.
-/
import Derived.Test.YtacikkhhacladaaLaw08a
import Derived.Test.YtacikkhhacladaaSymB
import Derived.Test.YtacikkhhacladaaScG
namespace Go.Proofs.Ytacikkhhacladaa
open Go Go.RowKit
set_option linter.unusedVariables false
set_option linter.unusedSimpArgs false

theorem ofS_one : ofS [1] = 1 := Fin.ext ofL_one
theorem built1 : Try.prog.builtSlice 5 1 [(0, .int .u8 1)] = some (bvs [1]).toArray := by kernel_rfl
set_option maxRecDepth 100000 in
set_option maxHeartbeats 4000000 in
theorem laws8_any (A : Option Addr) (xs : List UInt8) (c : Nat) (A' : Option Addr) (ys : List UInt8) (c' : Nat) (A'' : Option Addr) (zs : List UInt8) (c'' : Nat) (w : World) (hS : Sq w w.heap.size A c (bvs xs)) (hS' : Sq w w.heap.size A' c' (bvs ys)) (hS'' : Sq w w.heap.size A'' c'' (bvs zs)) :
    Calls Try.prog 5 #[.slice A xs.length c, .slice A' ys.length c', .slice A'' zs.length c''] w fun e w' => e = .returned (.bool true) ∧ Below w.heap.size w w' := by
  have HS := hid hS; have HS' := hid hS'; have HS'' := hid hS''
  have HAL := hid alive8_any
  clear hS hS' hS''
  by_cases hx : 100 < xs.length
  · have hxi : (100 : Int) < (xs.length : Int) := by omega
    clear hx
    go_enter Try.func5, Try.ntmps5
    go_wp2_with fail
    refine (HAL.out _).mono ?_
    rintro e w1 ⟨rfl, hb1⟩
    go_wp2
    go_ret
    exact ⟨rfl, hb1⟩
  have hxi : ¬ (100 : Int) < (xs.length : Int) := by omega
  by_cases hy : 100 < ys.length
  · have hyi : (100 : Int) < (ys.length : Int) := by omega
    clear hy
    go_enter Try.func5, Try.ntmps5
    go_wp2_with fail
    refine (HAL.out _).mono ?_
    rintro e w1 ⟨rfl, hb1⟩
    go_wp2
    go_ret
    exact ⟨rfl, hb1⟩
  have hyi : ¬ (100 : Int) < (ys.length : Int) := by omega
  by_cases hz : 100 < zs.length
  · have hzi : (100 : Int) < (zs.length : Int) := by omega
    clear hz
    go_enter Try.func5, Try.ntmps5
    go_wp2_with fail
    refine (HAL.out _).mono ?_
    rintro e w1 ⟨rfl, hb1⟩
    go_wp2
    go_ret
    exact ⟨rfl, hb1⟩
  have hzi : ¬ (100 : Int) < (zs.length : Int) := by omega
  have HOx := scOf xs (by omega)
  obtain ⟨x, hvx⟩ : ∃ v : SF, v = ofS xs := ⟨_, rfl⟩
  rw [← hvx] at HOx
  have HOy := scOf ys (by omega)
  obtain ⟨y, hvy⟩ : ∃ v : SF, v = ofS ys := ⟨_, rfl⟩
  rw [← hvy] at HOy
  have HOz := scOf zs (by omega)
  obtain ⟨z, hvz⟩ : ∃ v : SF, v = ofS zs := ⟨_, rfl⟩
  rw [← hvz] at HOz
  have HO1 := scOf [1] (by decide)
  rw [ofS_one] at HO1
  obtain ⟨u, hu⟩ : ∃ v : SF, v = 1 := ⟨_, rfl⟩
  rw [← hu] at HO1
  clear hvx hvy hvz hx hy hz
  obtain ⟨v1, hv1⟩ : ∃ v : SF, v = (y + z) := ⟨_, rfl⟩
  have Kv1 := scAdd (show v1 = y + z by rw [hv1])
  obtain ⟨v2, hv2⟩ : ∃ v : SF, v = (x * (y + z)) := ⟨_, rfl⟩
  have Kv2 := scMul (show v2 = x * v1 by rw [hv2, hv1])
  obtain ⟨v3, hv3⟩ : ∃ v : SF, v = (x * y) := ⟨_, rfl⟩
  have Kv3 := scMul (show v3 = x * y by rw [hv3])
  obtain ⟨v4, hv4⟩ : ∃ v : SF, v = (x * z) := ⟨_, rfl⟩
  have Kv4 := scMul (show v4 = x * z by rw [hv4])
  obtain ⟨v5, hv5⟩ : ∃ v : SF, v = ((x * y) + (x * z)) := ⟨_, rfl⟩
  have Kv5 := scAdd (show v5 = v3 + v4 by rw [hv5, hv3, hv4])
  have Q1 := scSameT (show v2 = v5 by rw [hv2, hv5]; grobner)
  obtain ⟨v6, hv6⟩ : ∃ v : SF, v = (y * z) := ⟨_, rfl⟩
  have Kv6 := scMul (show v6 = y * z by rw [hv6])
  obtain ⟨v7, hv7⟩ : ∃ v : SF, v = (x * (y * z)) := ⟨_, rfl⟩
  have Kv7 := scMul (show v7 = x * v6 by rw [hv7, hv6])
  obtain ⟨v8, hv8⟩ : ∃ v : SF, v = ((x * y) * z) := ⟨_, rfl⟩
  have Kv8 := scMul (show v8 = v3 * z by rw [hv8, hv3])
  have Q2 := scSameT (show v7 = v8 by rw [hv7, hv8]; grobner)
  obtain ⟨v9, hv9⟩ : ∃ v : SF, v = (x + (y + z)) := ⟨_, rfl⟩
  have Kv9 := scAdd (show v9 = x + v1 by rw [hv9, hv1])
  obtain ⟨v10, hv10⟩ : ∃ v : SF, v = (x + y) := ⟨_, rfl⟩
  have Kv10 := scAdd (show v10 = x + y by rw [hv10])
  obtain ⟨v11, hv11⟩ : ∃ v : SF, v = ((x + y) + z) := ⟨_, rfl⟩
  have Kv11 := scAdd (show v11 = v10 + z by rw [hv11, hv10])
  have Q3 := scSameT (show v9 = v11 by rw [hv9, hv11]; grobner)
  obtain ⟨v12, hv12⟩ : ∃ v : SF, v = (y * x) := ⟨_, rfl⟩
  have Kv12 := scMul (show v12 = y * x by rw [hv12])
  have Q4 := scSameT (show v3 = v12 by rw [hv3, hv12]; grobner)
  obtain ⟨v13, hv13⟩ : ∃ v : SF, v = (y + x) := ⟨_, rfl⟩
  have Kv13 := scAdd (show v13 = y + x by rw [hv13])
  have Q5 := scSameT (show v10 = v13 by rw [hv10, hv13]; grobner)
  obtain ⟨v14, hv14⟩ : ∃ v : SF, v = (-x) := ⟨_, rfl⟩
  have Kv14 := scNeg (show v14 = -x by rw [hv14])
  obtain ⟨v15, hv15⟩ : ∃ v : SF, v = (x + (-x)) := ⟨_, rfl⟩
  have Kv15 := scAdd (show v15 = x + v14 by rw [hv15, hv14])
  have Q6 := scSameT (show v15 = 0 by rw [hv15]; grobner)
  rw [← zS_sF] at Q6
  obtain ⟨v16, hv16⟩ : ∃ v : SF, v = (x * 1) := ⟨_, rfl⟩
  have Kv16 := scMul (show v16 = x * u by rw [hv16, hu])
  have Q7 := scSameT (show v16 = x by rw [hv16]; grobner)
  obtain ⟨v17, hv17⟩ : ∃ v : SF, v = (-1) := ⟨_, rfl⟩
  have Kv17 := scNeg (show v17 = -u by rw [hv17, hu])
  obtain ⟨v18, hv18⟩ : ∃ v : SF, v = (x * (-1)) := ⟨_, rfl⟩
  have Kv18 := scMul (show v18 = x * v17 by rw [hv18, hv17])
  have Q8 := scSameT (show v18 = v14 by rw [hv18, hv14]; grobner)
  have Q9 := scSameT (rfl : x = x)
  have HBX := scBytes x
  have HOB := scOf (leB 32 x.val) (by rw [leB_length]; omega)
  rw [ofS_bytes] at HOB
  obtain ⟨xb, hxb⟩ : ∃ b, b = leB 32 x.val := ⟨_, rfl⟩
  rw [← hxb] at HBX HOB
  clear hxb hu hv1 hv2 hv3 hv4 hv5 hv6 hv7 hv8 hv9 hv10 hv11 hv12 hv13 hv14 hv15 hv16 hv17 hv18
  go_enter Try.func5, Try.ntmps5
  go_wp2_with fail
  refine (HAL.out _).mono ?_
  rintro e w0 ⟨rfl, hb⟩
  have S0 : Hid (St w w0 [] []) := hid ((St.start w).on hb)
  clear hb
  go_upto_region 5 with fail
  refine wpLA_start ?_
  refine wpLA_take (.slice A (xs.length) c) (yG_val _ (by rfl) (fun w' _ => by (go_simp; try rfl))) ?_
  (try simp only [Act.put, List.getElem_toArray, List.getElem_cons_succ, List.getElem_cons_zero, List.setIfInBounds_toArray, List.set_cons_zero, List.set_cons_succ])
  refine wpLA_take (.agg (sF x)) (yG_call (by rfl) (fun w' => by go_simp) (fun w' hb => HOx.out _ _ w' (HS.out.on6 ((S0.out.on hb).below)))) ?_
  (try simp only [Act.put, List.getElem_toArray, List.getElem_cons_succ, List.getElem_cons_zero, List.setIfInBounds_toArray, List.set_cons_zero, List.set_cons_succ])
  refine wpLA_take (.slice A' (ys.length) c') (yG_val _ (by rfl) (fun w' _ => by (go_simp; try rfl))) ?_
  (try simp only [Act.put, List.getElem_toArray, List.getElem_cons_succ, List.getElem_cons_zero, List.setIfInBounds_toArray, List.set_cons_zero, List.set_cons_succ])
  refine wpLA_take (.agg (sF y)) (yG_call (by rfl) (fun w' => by go_simp) (fun w' hb => HOy.out _ _ w' (HS'.out.on6 ((S0.out.on hb).below)))) ?_
  (try simp only [Act.put, List.getElem_toArray, List.getElem_cons_succ, List.getElem_cons_zero, List.setIfInBounds_toArray, List.set_cons_zero, List.set_cons_succ])
  refine wpLA_take (.slice A'' (zs.length) c'') (yG_val _ (by rfl) (fun w' _ => by (go_simp; try rfl))) ?_
  (try simp only [Act.put, List.getElem_toArray, List.getElem_cons_succ, List.getElem_cons_zero, List.setIfInBounds_toArray, List.set_cons_zero, List.set_cons_succ])
  refine wpLA_take (.agg (sF z)) (yG_call (by rfl) (fun w' => by go_simp) (fun w' hb => HOz.out _ _ w' (HS''.out.on6 ((S0.out.on hb).below)))) ?_
  (try simp only [Act.put, List.getElem_toArray, List.getElem_cons_succ, List.getElem_cons_zero, List.setIfInBounds_toArray, List.set_cons_zero, List.set_cons_succ])
  refine wpLA_alloc (by rfl) rfl zeroS ?_
  intro p1 w1 hp hz hb
  have S1 : Hid (St w w1 [(p1, zS, ST)] []) := hid (S0.out.alloc hb hp hz)
  clear hp hz hb S0
  (try simp only [Act.put, List.getElem_toArray, List.getElem_cons_succ, List.getElem_cons_zero, List.setIfInBounds_toArray, List.set_cons_zero, List.set_cons_succ])
  refine wpLA_alloc (by rfl) rfl zeroS ?_
  intro p2 w2 hp hz hb
  have S2 : Hid (St w w2 [(p2, zS, ST), (p1, zS, ST)] []) := hid (S1.out.alloc hb hp hz)
  clear hp hz hb S1
  (try simp only [Act.put, List.getElem_toArray, List.getElem_cons_succ, List.getElem_cons_zero, List.setIfInBounds_toArray, List.set_cons_zero, List.set_cons_succ])
  refine wpLA_alloc (by rfl) rfl zeroS ?_
  intro p3 w3 hp hz hb
  have S3 : Hid (St w w3 [(p3, zS, ST), (p2, zS, ST), (p1, zS, ST)] []) := hid (S2.out.alloc hb hp hz)
  clear hp hz hb S2
  (try simp only [Act.put, List.getElem_toArray, List.getElem_cons_succ, List.getElem_cons_zero, List.setIfInBounds_toArray, List.set_cons_zero, List.set_cons_succ])
  refine wpLA_store rfl ST (.tmp 7) (.tmp 27) rfl p1 (sF x) rfl rfl ST (zS) S3.out.cl.2.2.1 (infoSF _) rfl (oneSF _) ?_
  intro wx hb
  have S4 : Hid (St w (wx.setRow p1 (sF x)) [(p3, zS, ST), (p2, zS, ST), (p1, sF x, ST)] []) := hid ((S3.out.on hb).put0 2 rfl)
  clear hb S3
  generalize wx.setRow p1 (sF x) = w4 at S4 ⊢
  (try simp only [Act.put, List.getElem_toArray, List.getElem_cons_succ, List.getElem_cons_zero, List.setIfInBounds_toArray, List.set_cons_zero, List.set_cons_succ])
  refine wpLA_store rfl ST (.tmp 8) (.tmp 29) rfl p2 (sF y) rfl rfl ST (zS) S4.out.cl.2.1 (infoSF _) rfl (oneSF _) ?_
  intro wx hb
  have S5 : Hid (St w (wx.setRow p2 (sF y)) [(p3, zS, ST), (p2, sF y, ST), (p1, sF x, ST)] []) := hid ((S4.out.on hb).put0 1 rfl)
  clear hb S4
  generalize wx.setRow p2 (sF y) = w5 at S5 ⊢
  (try simp only [Act.put, List.getElem_toArray, List.getElem_cons_succ, List.getElem_cons_zero, List.setIfInBounds_toArray, List.set_cons_zero, List.set_cons_succ])
  refine wpLA_store rfl ST (.tmp 9) (.tmp 31) rfl p3 (sF z) rfl rfl ST (zS) S5.out.cl.1 (infoSF _) rfl (oneSF _) ?_
  intro wx hb
  have S6 : Hid (St w (wx.setRow p3 (sF z)) [(p3, sF z, ST), (p2, sF y, ST), (p1, sF x, ST)] []) := hid ((S5.out.on hb).put0 0 rfl)
  clear hb S5
  generalize wx.setRow p3 (sF z) = w6 at S6 ⊢
  (try simp only [Act.put, List.getElem_toArray, List.getElem_cons_succ, List.getElem_cons_zero, List.setIfInBounds_toArray, List.set_cons_zero, List.set_cons_succ])
  refine wpLA_end ?_
  intro w7 hb
  have S7 := hid (S6.out.on hb)
  clear hb S6
  go_upto_region 6 with fail
  refine wpLA_start ?_
  refine wpLA_slice rfl _ _ 1 _ rfl Try.underlying22 [(0, (.int .u8 1))] rfl (bvs [1]) built1 (by decide) (by decide) ?_
  intro p8 w8 hb hs
  have S8 : Hid (St w w8 [(p3, sF z, ST), (p2, sF y, ST), (p1, sF x, ST)] [((some ⟨p8, 0, none⟩), 1, bvs [1])]) := hid ((S7.out.on hb).more hs)
  clear hb hs S7
  (try simp only [Act.put, List.getElem_toArray, List.getElem_cons_succ, List.getElem_cons_zero, List.setIfInBounds_toArray, List.set_cons_zero, List.set_cons_succ])
  refine wpLA_take (.agg (sF u)) (yG_call (by rfl) (fun w' => by go_simp) (fun w' hb => HO1.out _ _ w' (S8.out.on hb).sq.1)) ?_
  (try simp only [Act.put, List.getElem_toArray, List.getElem_cons_succ, List.getElem_cons_zero, List.setIfInBounds_toArray, List.set_cons_zero, List.set_cons_succ])
  refine wpLA_alloc (by rfl) rfl zeroS ?_
  intro p9 w9 hp hz hb
  have N9 := hid (S8.out.sq.far hp)
  have S9 : Hid (St w w9 [(p9, zS, ST), (p3, sF z, ST), (p2, sF y, ST), (p1, sF x, ST)] [((some ⟨p8, 0, none⟩), 1, bvs [1])]) := hid (S8.out.alloc hb hp hz)
  clear hp hz hb S8
  (try simp only [Act.put, List.getElem_toArray, List.getElem_cons_succ, List.getElem_cons_zero, List.setIfInBounds_toArray, List.set_cons_zero, List.set_cons_succ])
  refine wpLA_store rfl ST (.tmp 10) (.tmp 33) rfl p9 (sF u) rfl rfl ST (zS) S9.out.cl.1 (infoSF _) rfl (oneSF _) ?_
  intro wx hb
  have S10 : Hid (St w (wx.setRow p9 (sF u)) [(p9, sF u, ST), (p3, sF z, ST), (p2, sF y, ST), (p1, sF x, ST)] [((some ⟨p8, 0, none⟩), 1, bvs [1])]) := hid ((S9.out.on hb).put 0 rfl N9.out)
  clear hb S9
  generalize wx.setRow p9 (sF u) = w10 at S10 ⊢
  (try simp only [Act.put, List.getElem_toArray, List.getElem_cons_succ, List.getElem_cons_zero, List.setIfInBounds_toArray, List.set_cons_zero, List.set_cons_succ])
  refine wpLA_end ?_
  intro w11 hb
  have S11 := hid (S10.out.on hb)
  clear hb S10
  go_upto_region 7 with fail
  refine wp_region_grA 41 (by kernel_rfl) (by decide) ?_
  refine wpGrA_take (i := 0) (.agg (sF x)) rfl (by kernel_rfl) (by kernel_rfl) (fun _ _ _ h => h) (yG_part (by rfl) ST (.tmp 7) rfl p1 0 rfl ST (sF x) (sF x) (0, 0) _ S11.out.cl.2.2.2.1 (sF_all _) Try.underlying26 rfl (infoSF _)) ?_
  (try simp only [Act.put, List.getElem_toArray, List.getElem_cons_succ, List.getElem_cons_zero, List.setIfInBounds_toArray, List.set_cons_zero, List.set_cons_succ])
  refine wpGrA_take (i := 1) (.agg (sF y)) rfl (by kernel_rfl) (by kernel_rfl) (fun _ _ _ h => h) (yG_part (by rfl) ST (.tmp 8) rfl p2 0 rfl ST (sF y) (sF y) (0, 0) _ S11.out.cl.2.2.1 (sF_all _) Try.underlying26 rfl (infoSF _)) ?_
  (try simp only [Act.put, List.getElem_toArray, List.getElem_cons_succ, List.getElem_cons_zero, List.setIfInBounds_toArray, List.set_cons_zero, List.set_cons_succ])
  refine wpGrA_take (i := 2) (.agg (sF z)) rfl (by kernel_rfl) (by kernel_rfl) (fun _ _ _ h => h) (yG_part (by rfl) ST (.tmp 9) rfl p3 0 rfl ST (sF z) (sF z) (0, 0) _ S11.out.cl.2.1 (sF_all _) Try.underlying26 rfl (infoSF _)) ?_
  (try simp only [Act.put, List.getElem_toArray, List.getElem_cons_succ, List.getElem_cons_zero, List.setIfInBounds_toArray, List.set_cons_zero, List.set_cons_succ])
  refine wpGrA_take (i := 3) (.agg (sF v1)) rfl (by kernel_rfl) (by kernel_rfl) (fun _ _ _ h => h) (yG_call (by rfl) (fun w' => by go_simp) (fun w' hb => Kv1.out w')) ?_
  (try simp only [Act.put, List.getElem_toArray, List.getElem_cons_succ, List.getElem_cons_zero, List.setIfInBounds_toArray, List.set_cons_zero, List.set_cons_succ])
  refine wpGrA_take (i := 4) (.agg (sF v2)) rfl (by kernel_rfl) (by kernel_rfl) (fun _ _ _ h => h) (yG_call (by rfl) (fun w' => by go_simp) (fun w' hb => Kv2.out w')) ?_
  (try simp only [Act.put, List.getElem_toArray, List.getElem_cons_succ, List.getElem_cons_zero, List.setIfInBounds_toArray, List.set_cons_zero, List.set_cons_succ])
  refine wpGrA_take (i := 5) (.agg (sF x)) rfl (by kernel_rfl) (by kernel_rfl) (fun _ _ _ h => h) (yG_part (by rfl) ST (.tmp 7) rfl p1 0 rfl ST (sF x) (sF x) (0, 0) _ S11.out.cl.2.2.2.1 (sF_all _) Try.underlying26 rfl (infoSF _)) ?_
  (try simp only [Act.put, List.getElem_toArray, List.getElem_cons_succ, List.getElem_cons_zero, List.setIfInBounds_toArray, List.set_cons_zero, List.set_cons_succ])
  refine wpGrA_take (i := 6) (.agg (sF y)) rfl (by kernel_rfl) (by kernel_rfl) (fun _ _ _ h => h) (yG_part (by rfl) ST (.tmp 8) rfl p2 0 rfl ST (sF y) (sF y) (0, 0) _ S11.out.cl.2.2.1 (sF_all _) Try.underlying26 rfl (infoSF _)) ?_
  (try simp only [Act.put, List.getElem_toArray, List.getElem_cons_succ, List.getElem_cons_zero, List.setIfInBounds_toArray, List.set_cons_zero, List.set_cons_succ])
  refine wpGrA_take (i := 7) (.agg (sF v3)) rfl (by kernel_rfl) (by kernel_rfl) (fun _ _ _ h => h) (yG_call (by rfl) (fun w' => by go_simp) (fun w' hb => Kv3.out w')) ?_
  (try simp only [Act.put, List.getElem_toArray, List.getElem_cons_succ, List.getElem_cons_zero, List.setIfInBounds_toArray, List.set_cons_zero, List.set_cons_succ])
  refine wpGrA_take (i := 8) (.agg (sF x)) rfl (by kernel_rfl) (by kernel_rfl) (fun _ _ _ h => h) (yG_part (by rfl) ST (.tmp 7) rfl p1 0 rfl ST (sF x) (sF x) (0, 0) _ S11.out.cl.2.2.2.1 (sF_all _) Try.underlying26 rfl (infoSF _)) ?_
  (try simp only [Act.put, List.getElem_toArray, List.getElem_cons_succ, List.getElem_cons_zero, List.setIfInBounds_toArray, List.set_cons_zero, List.set_cons_succ])
  refine wpGrA_take (i := 9) (.agg (sF z)) rfl (by kernel_rfl) (by kernel_rfl) (fun _ _ _ h => h) (yG_part (by rfl) ST (.tmp 9) rfl p3 0 rfl ST (sF z) (sF z) (0, 0) _ S11.out.cl.2.1 (sF_all _) Try.underlying26 rfl (infoSF _)) ?_
  (try simp only [Act.put, List.getElem_toArray, List.getElem_cons_succ, List.getElem_cons_zero, List.setIfInBounds_toArray, List.set_cons_zero, List.set_cons_succ])
  refine wpGrA_take (i := 10) (.agg (sF v4)) rfl (by kernel_rfl) (by kernel_rfl) (fun _ _ _ h => h) (yG_call (by rfl) (fun w' => by go_simp) (fun w' hb => Kv4.out w')) ?_
  (try simp only [Act.put, List.getElem_toArray, List.getElem_cons_succ, List.getElem_cons_zero, List.setIfInBounds_toArray, List.set_cons_zero, List.set_cons_succ])
  refine wpGrA_take (i := 11) (.agg (sF v5)) rfl (by kernel_rfl) (by kernel_rfl) (fun _ _ _ h => h) (yG_call (by rfl) (fun w' => by go_simp) (fun w' hb => Kv5.out w')) ?_
  (try simp only [Act.put, List.getElem_toArray, List.getElem_cons_succ, List.getElem_cons_zero, List.setIfInBounds_toArray, List.set_cons_zero, List.set_cons_succ])
  refine wpGrA_take (i := 12) (.bool true) rfl (by kernel_rfl) (by kernel_rfl) (fun _ _ _ h => h) (yG_call (by rfl) (fun w' => by go_simp) (fun w' hb => Q1.out w')) ?_
  (try simp only [Act.put, List.getElem_toArray, List.getElem_cons_succ, List.getElem_cons_zero, List.setIfInBounds_toArray, List.set_cons_zero, List.set_cons_succ])
  refine wpGrA_take (i := 13) (.bool false) rfl (by kernel_rfl) (by kernel_rfl) (fun _ _ _ h => h) (yG_val _ (by rfl) (fun w' _ => by (go_simp; try rfl))) ?_
  (try simp only [Act.put, List.getElem_toArray, List.getElem_cons_succ, List.getElem_cons_zero, List.setIfInBounds_toArray, List.set_cons_zero, List.set_cons_succ])
  refine wpGrA_take (i := 14) (.bool false) rfl (by kernel_rfl) (by kernel_rfl) (fun _ _ _ h => h) (yG_val _ (by rfl) (fun w' _ => by (go_simp; try rfl))) ?_
  (try simp only [Act.put, List.getElem_toArray, List.getElem_cons_succ, List.getElem_cons_zero, List.setIfInBounds_toArray, List.set_cons_zero, List.set_cons_succ])
  refine wpGrA_take (i := 15) (.agg (sF x)) rfl (by kernel_rfl) (by kernel_rfl) (fun _ _ _ h => h) (yG_part (by rfl) ST (.tmp 7) rfl p1 0 rfl ST (sF x) (sF x) (0, 0) _ S11.out.cl.2.2.2.1 (sF_all _) Try.underlying26 rfl (infoSF _)) ?_
  (try simp only [Act.put, List.getElem_toArray, List.getElem_cons_succ, List.getElem_cons_zero, List.setIfInBounds_toArray, List.set_cons_zero, List.set_cons_succ])
  refine wpGrA_take (i := 16) (.agg (sF y)) rfl (by kernel_rfl) (by kernel_rfl) (fun _ _ _ h => h) (yG_part (by rfl) ST (.tmp 8) rfl p2 0 rfl ST (sF y) (sF y) (0, 0) _ S11.out.cl.2.2.1 (sF_all _) Try.underlying26 rfl (infoSF _)) ?_
  (try simp only [Act.put, List.getElem_toArray, List.getElem_cons_succ, List.getElem_cons_zero, List.setIfInBounds_toArray, List.set_cons_zero, List.set_cons_succ])
  refine wpGrA_take (i := 17) (.agg (sF z)) rfl (by kernel_rfl) (by kernel_rfl) (fun _ _ _ h => h) (yG_part (by rfl) ST (.tmp 9) rfl p3 0 rfl ST (sF z) (sF z) (0, 0) _ S11.out.cl.2.1 (sF_all _) Try.underlying26 rfl (infoSF _)) ?_
  (try simp only [Act.put, List.getElem_toArray, List.getElem_cons_succ, List.getElem_cons_zero, List.setIfInBounds_toArray, List.set_cons_zero, List.set_cons_succ])
  refine wpGrA_take (i := 18) (.agg (sF v6)) rfl (by kernel_rfl) (by kernel_rfl) (fun _ _ _ h => h) (yG_call (by rfl) (fun w' => by go_simp) (fun w' hb => Kv6.out w')) ?_
  (try simp only [Act.put, List.getElem_toArray, List.getElem_cons_succ, List.getElem_cons_zero, List.setIfInBounds_toArray, List.set_cons_zero, List.set_cons_succ])
  refine wpGrA_take (i := 19) (.agg (sF v7)) rfl (by kernel_rfl) (by kernel_rfl) (fun _ _ _ h => h) (yG_call (by rfl) (fun w' => by go_simp) (fun w' hb => Kv7.out w')) ?_
  (try simp only [Act.put, List.getElem_toArray, List.getElem_cons_succ, List.getElem_cons_zero, List.setIfInBounds_toArray, List.set_cons_zero, List.set_cons_succ])
  refine wpGrA_take (i := 20) (.agg (sF x)) rfl (by kernel_rfl) (by kernel_rfl) (fun _ _ _ h => h) (yG_part (by rfl) ST (.tmp 7) rfl p1 0 rfl ST (sF x) (sF x) (0, 0) _ S11.out.cl.2.2.2.1 (sF_all _) Try.underlying26 rfl (infoSF _)) ?_
  (try simp only [Act.put, List.getElem_toArray, List.getElem_cons_succ, List.getElem_cons_zero, List.setIfInBounds_toArray, List.set_cons_zero, List.set_cons_succ])
  refine wpGrA_take (i := 21) (.agg (sF y)) rfl (by kernel_rfl) (by kernel_rfl) (fun _ _ _ h => h) (yG_part (by rfl) ST (.tmp 8) rfl p2 0 rfl ST (sF y) (sF y) (0, 0) _ S11.out.cl.2.2.1 (sF_all _) Try.underlying26 rfl (infoSF _)) ?_
  (try simp only [Act.put, List.getElem_toArray, List.getElem_cons_succ, List.getElem_cons_zero, List.setIfInBounds_toArray, List.set_cons_zero, List.set_cons_succ])
  refine wpGrA_take (i := 22) (.agg (sF v3)) rfl (by kernel_rfl) (by kernel_rfl) (fun _ _ _ h => h) (yG_call (by rfl) (fun w' => by go_simp) (fun w' hb => Kv3.out w')) ?_
  (try simp only [Act.put, List.getElem_toArray, List.getElem_cons_succ, List.getElem_cons_zero, List.setIfInBounds_toArray, List.set_cons_zero, List.set_cons_succ])
  refine wpGrA_take (i := 23) (.agg (sF z)) rfl (by kernel_rfl) (by kernel_rfl) (fun _ _ _ h => h) (yG_part (by rfl) ST (.tmp 9) rfl p3 0 rfl ST (sF z) (sF z) (0, 0) _ S11.out.cl.2.1 (sF_all _) Try.underlying26 rfl (infoSF _)) ?_
  (try simp only [Act.put, List.getElem_toArray, List.getElem_cons_succ, List.getElem_cons_zero, List.setIfInBounds_toArray, List.set_cons_zero, List.set_cons_succ])
  refine wpGrA_take (i := 24) (.agg (sF v8)) rfl (by kernel_rfl) (by kernel_rfl) (fun _ _ _ h => h) (yG_call (by rfl) (fun w' => by go_simp) (fun w' hb => Kv8.out w')) ?_
  (try simp only [Act.put, List.getElem_toArray, List.getElem_cons_succ, List.getElem_cons_zero, List.setIfInBounds_toArray, List.set_cons_zero, List.set_cons_succ])
  refine wpGrA_take (i := 25) (.bool true) rfl (by kernel_rfl) (by kernel_rfl) (fun _ _ _ h => h) (yG_call (by rfl) (fun w' => by go_simp) (fun w' hb => Q2.out w')) ?_
  (try simp only [Act.put, List.getElem_toArray, List.getElem_cons_succ, List.getElem_cons_zero, List.setIfInBounds_toArray, List.set_cons_zero, List.set_cons_succ])
  refine wpGrA_take (i := 26) (.bool false) rfl (by kernel_rfl) (by kernel_rfl) (fun _ _ _ h => h) (yG_val _ (by rfl) (fun w' _ => by (go_simp; try rfl))) ?_
  (try simp only [Act.put, List.getElem_toArray, List.getElem_cons_succ, List.getElem_cons_zero, List.setIfInBounds_toArray, List.set_cons_zero, List.set_cons_succ])
  refine wpGrA_take (i := 27) (.bool false) rfl (by kernel_rfl) (by kernel_rfl) (fun _ _ _ h => h) (yG_val _ (by rfl) (fun w' _ => by (go_simp; try rfl))) ?_
  (try simp only [Act.put, List.getElem_toArray, List.getElem_cons_succ, List.getElem_cons_zero, List.setIfInBounds_toArray, List.set_cons_zero, List.set_cons_succ])
  refine wpGrA_take (i := 28) (.bool false) rfl (by kernel_rfl) (by kernel_rfl) (fun _ _ _ h => h) (yG_val _ (by rfl) (fun w' _ => by (go_simp; try rfl))) ?_
  (try simp only [Act.put, List.getElem_toArray, List.getElem_cons_succ, List.getElem_cons_zero, List.setIfInBounds_toArray, List.set_cons_zero, List.set_cons_succ])
  refine wpGrA_take (i := 29) (.agg (sF x)) rfl (by kernel_rfl) (by kernel_rfl) (fun _ _ _ h => h) (yG_part (by rfl) ST (.tmp 7) rfl p1 0 rfl ST (sF x) (sF x) (0, 0) _ S11.out.cl.2.2.2.1 (sF_all _) Try.underlying26 rfl (infoSF _)) ?_
  (try simp only [Act.put, List.getElem_toArray, List.getElem_cons_succ, List.getElem_cons_zero, List.setIfInBounds_toArray, List.set_cons_zero, List.set_cons_succ])
  refine wpGrA_take (i := 30) (.agg (sF y)) rfl (by kernel_rfl) (by kernel_rfl) (fun _ _ _ h => h) (yG_part (by rfl) ST (.tmp 8) rfl p2 0 rfl ST (sF y) (sF y) (0, 0) _ S11.out.cl.2.2.1 (sF_all _) Try.underlying26 rfl (infoSF _)) ?_
  (try simp only [Act.put, List.getElem_toArray, List.getElem_cons_succ, List.getElem_cons_zero, List.setIfInBounds_toArray, List.set_cons_zero, List.set_cons_succ])
  refine wpGrA_take (i := 31) (.agg (sF z)) rfl (by kernel_rfl) (by kernel_rfl) (fun _ _ _ h => h) (yG_part (by rfl) ST (.tmp 9) rfl p3 0 rfl ST (sF z) (sF z) (0, 0) _ S11.out.cl.2.1 (sF_all _) Try.underlying26 rfl (infoSF _)) ?_
  (try simp only [Act.put, List.getElem_toArray, List.getElem_cons_succ, List.getElem_cons_zero, List.setIfInBounds_toArray, List.set_cons_zero, List.set_cons_succ])
  refine wpGrA_take (i := 32) (.agg (sF v1)) rfl (by kernel_rfl) (by kernel_rfl) (fun _ _ _ h => h) (yG_call (by rfl) (fun w' => by go_simp) (fun w' hb => Kv1.out w')) ?_
  (try simp only [Act.put, List.getElem_toArray, List.getElem_cons_succ, List.getElem_cons_zero, List.setIfInBounds_toArray, List.set_cons_zero, List.set_cons_succ])
  refine wpGrA_take (i := 33) (.agg (sF v9)) rfl (by kernel_rfl) (by kernel_rfl) (fun _ _ _ h => h) (yG_call (by rfl) (fun w' => by go_simp) (fun w' hb => Kv9.out w')) ?_
  (try simp only [Act.put, List.getElem_toArray, List.getElem_cons_succ, List.getElem_cons_zero, List.setIfInBounds_toArray, List.set_cons_zero, List.set_cons_succ])
  refine wpGrA_take (i := 34) (.agg (sF x)) rfl (by kernel_rfl) (by kernel_rfl) (fun _ _ _ h => h) (yG_part (by rfl) ST (.tmp 7) rfl p1 0 rfl ST (sF x) (sF x) (0, 0) _ S11.out.cl.2.2.2.1 (sF_all _) Try.underlying26 rfl (infoSF _)) ?_
  (try simp only [Act.put, List.getElem_toArray, List.getElem_cons_succ, List.getElem_cons_zero, List.setIfInBounds_toArray, List.set_cons_zero, List.set_cons_succ])
  refine wpGrA_take (i := 35) (.agg (sF y)) rfl (by kernel_rfl) (by kernel_rfl) (fun _ _ _ h => h) (yG_part (by rfl) ST (.tmp 8) rfl p2 0 rfl ST (sF y) (sF y) (0, 0) _ S11.out.cl.2.2.1 (sF_all _) Try.underlying26 rfl (infoSF _)) ?_
  (try simp only [Act.put, List.getElem_toArray, List.getElem_cons_succ, List.getElem_cons_zero, List.setIfInBounds_toArray, List.set_cons_zero, List.set_cons_succ])
  refine wpGrA_take (i := 36) (.agg (sF v10)) rfl (by kernel_rfl) (by kernel_rfl) (fun _ _ _ h => h) (yG_call (by rfl) (fun w' => by go_simp) (fun w' hb => Kv10.out w')) ?_
  (try simp only [Act.put, List.getElem_toArray, List.getElem_cons_succ, List.getElem_cons_zero, List.setIfInBounds_toArray, List.set_cons_zero, List.set_cons_succ])
  refine wpGrA_take (i := 37) (.agg (sF z)) rfl (by kernel_rfl) (by kernel_rfl) (fun _ _ _ h => h) (yG_part (by rfl) ST (.tmp 9) rfl p3 0 rfl ST (sF z) (sF z) (0, 0) _ S11.out.cl.2.1 (sF_all _) Try.underlying26 rfl (infoSF _)) ?_
  (try simp only [Act.put, List.getElem_toArray, List.getElem_cons_succ, List.getElem_cons_zero, List.setIfInBounds_toArray, List.set_cons_zero, List.set_cons_succ])
  refine wpGrA_take (i := 38) (.agg (sF v11)) rfl (by kernel_rfl) (by kernel_rfl) (fun _ _ _ h => h) (yG_call (by rfl) (fun w' => by go_simp) (fun w' hb => Kv11.out w')) ?_
  (try simp only [Act.put, List.getElem_toArray, List.getElem_cons_succ, List.getElem_cons_zero, List.setIfInBounds_toArray, List.set_cons_zero, List.set_cons_succ])
  refine wpGrA_take (i := 39) (.bool true) rfl (by kernel_rfl) (by kernel_rfl) (fun _ _ _ h => h) (yG_call (by rfl) (fun w' => by go_simp) (fun w' hb => Q3.out w')) ?_
  (try simp only [Act.put, List.getElem_toArray, List.getElem_cons_succ, List.getElem_cons_zero, List.setIfInBounds_toArray, List.set_cons_zero, List.set_cons_succ])
  refine wpGrA_take (i := 40) (.bool false) rfl (by kernel_rfl) (by kernel_rfl) (fun _ _ _ h => h) (yG_val _ (by rfl) (fun w' _ => by (go_simp; try rfl))) ?_
  (try simp only [Act.put, List.getElem_toArray, List.getElem_cons_succ, List.getElem_cons_zero, List.setIfInBounds_toArray, List.set_cons_zero, List.set_cons_succ])
  refine wpGrA_end (by kernel_rfl) ?_
  intro w12 hb
  have S12 := hid (S11.out.on hb)
  clear hb S11
  refine wpLA_here ?_
  refine wpLA_take (.bool false) (yG_val _ (by rfl) (fun w' _ => by (go_simp; try rfl))) ?_
  (try simp only [Act.put, List.getElem_toArray, List.getElem_cons_succ, List.getElem_cons_zero, List.setIfInBounds_toArray, List.set_cons_zero, List.set_cons_succ])
  refine wpLA_end ?_
  intro w13 hb
  have S13 := hid (S12.out.on hb)
  clear hb S12
  go_upto_region 9 with fail
  refine wp_region_grA 47 (by kernel_rfl) (by decide) ?_
  refine wpGrA_take (i := 0) (.agg (sF x)) rfl (by kernel_rfl) (by kernel_rfl) (fun _ _ _ h => h) (yG_part (by rfl) ST (.tmp 7) rfl p1 0 rfl ST (sF x) (sF x) (0, 0) _ S13.out.cl.2.2.2.1 (sF_all _) Try.underlying26 rfl (infoSF _)) ?_
  (try simp only [Act.put, List.getElem_toArray, List.getElem_cons_succ, List.getElem_cons_zero, List.setIfInBounds_toArray, List.set_cons_zero, List.set_cons_succ])
  refine wpGrA_take (i := 1) (.agg (sF y)) rfl (by kernel_rfl) (by kernel_rfl) (fun _ _ _ h => h) (yG_part (by rfl) ST (.tmp 8) rfl p2 0 rfl ST (sF y) (sF y) (0, 0) _ S13.out.cl.2.2.1 (sF_all _) Try.underlying26 rfl (infoSF _)) ?_
  (try simp only [Act.put, List.getElem_toArray, List.getElem_cons_succ, List.getElem_cons_zero, List.setIfInBounds_toArray, List.set_cons_zero, List.set_cons_succ])
  refine wpGrA_take (i := 2) (.agg (sF v3)) rfl (by kernel_rfl) (by kernel_rfl) (fun _ _ _ h => h) (yG_call (by rfl) (fun w' => by go_simp) (fun w' hb => Kv3.out w')) ?_
  (try simp only [Act.put, List.getElem_toArray, List.getElem_cons_succ, List.getElem_cons_zero, List.setIfInBounds_toArray, List.set_cons_zero, List.set_cons_succ])
  refine wpGrA_take (i := 3) (.agg (sF y)) rfl (by kernel_rfl) (by kernel_rfl) (fun _ _ _ h => h) (yG_part (by rfl) ST (.tmp 8) rfl p2 0 rfl ST (sF y) (sF y) (0, 0) _ S13.out.cl.2.2.1 (sF_all _) Try.underlying26 rfl (infoSF _)) ?_
  (try simp only [Act.put, List.getElem_toArray, List.getElem_cons_succ, List.getElem_cons_zero, List.setIfInBounds_toArray, List.set_cons_zero, List.set_cons_succ])
  refine wpGrA_take (i := 4) (.agg (sF x)) rfl (by kernel_rfl) (by kernel_rfl) (fun _ _ _ h => h) (yG_part (by rfl) ST (.tmp 7) rfl p1 0 rfl ST (sF x) (sF x) (0, 0) _ S13.out.cl.2.2.2.1 (sF_all _) Try.underlying26 rfl (infoSF _)) ?_
  (try simp only [Act.put, List.getElem_toArray, List.getElem_cons_succ, List.getElem_cons_zero, List.setIfInBounds_toArray, List.set_cons_zero, List.set_cons_succ])
  refine wpGrA_take (i := 5) (.agg (sF v12)) rfl (by kernel_rfl) (by kernel_rfl) (fun _ _ _ h => h) (yG_call (by rfl) (fun w' => by go_simp) (fun w' hb => Kv12.out w')) ?_
  (try simp only [Act.put, List.getElem_toArray, List.getElem_cons_succ, List.getElem_cons_zero, List.setIfInBounds_toArray, List.set_cons_zero, List.set_cons_succ])
  refine wpGrA_take (i := 6) (.bool true) rfl (by kernel_rfl) (by kernel_rfl) (fun _ _ _ h => h) (yG_call (by rfl) (fun w' => by go_simp) (fun w' hb => Q4.out w')) ?_
  (try simp only [Act.put, List.getElem_toArray, List.getElem_cons_succ, List.getElem_cons_zero, List.setIfInBounds_toArray, List.set_cons_zero, List.set_cons_succ])
  refine wpGrA_take (i := 7) (.bool true) rfl (by kernel_rfl) (by kernel_rfl) (fun _ _ _ h => h) (yG_val _ (by rfl) (fun w' _ => by (go_simp; try rfl))) ?_
  (try simp only [Act.put, List.getElem_toArray, List.getElem_cons_succ, List.getElem_cons_zero, List.setIfInBounds_toArray, List.set_cons_zero, List.set_cons_succ])
  refine wpGrA_take (i := 8) (.agg (sF x)) rfl (by kernel_rfl) (by kernel_rfl) (fun _ _ _ h => h) (yG_part (by rfl) ST (.tmp 7) rfl p1 0 rfl ST (sF x) (sF x) (0, 0) _ S13.out.cl.2.2.2.1 (sF_all _) Try.underlying26 rfl (infoSF _)) ?_
  (try simp only [Act.put, List.getElem_toArray, List.getElem_cons_succ, List.getElem_cons_zero, List.setIfInBounds_toArray, List.set_cons_zero, List.set_cons_succ])
  refine wpGrA_take (i := 9) (.agg (sF y)) rfl (by kernel_rfl) (by kernel_rfl) (fun _ _ _ h => h) (yG_part (by rfl) ST (.tmp 8) rfl p2 0 rfl ST (sF y) (sF y) (0, 0) _ S13.out.cl.2.2.1 (sF_all _) Try.underlying26 rfl (infoSF _)) ?_
  (try simp only [Act.put, List.getElem_toArray, List.getElem_cons_succ, List.getElem_cons_zero, List.setIfInBounds_toArray, List.set_cons_zero, List.set_cons_succ])
  refine wpGrA_take (i := 10) (.agg (sF v10)) rfl (by kernel_rfl) (by kernel_rfl) (fun _ _ _ h => h) (yG_call (by rfl) (fun w' => by go_simp) (fun w' hb => Kv10.out w')) ?_
  (try simp only [Act.put, List.getElem_toArray, List.getElem_cons_succ, List.getElem_cons_zero, List.setIfInBounds_toArray, List.set_cons_zero, List.set_cons_succ])
  refine wpGrA_take (i := 11) (.agg (sF y)) rfl (by kernel_rfl) (by kernel_rfl) (fun _ _ _ h => h) (yG_part (by rfl) ST (.tmp 8) rfl p2 0 rfl ST (sF y) (sF y) (0, 0) _ S13.out.cl.2.2.1 (sF_all _) Try.underlying26 rfl (infoSF _)) ?_
  (try simp only [Act.put, List.getElem_toArray, List.getElem_cons_succ, List.getElem_cons_zero, List.setIfInBounds_toArray, List.set_cons_zero, List.set_cons_succ])
  refine wpGrA_take (i := 12) (.agg (sF x)) rfl (by kernel_rfl) (by kernel_rfl) (fun _ _ _ h => h) (yG_part (by rfl) ST (.tmp 7) rfl p1 0 rfl ST (sF x) (sF x) (0, 0) _ S13.out.cl.2.2.2.1 (sF_all _) Try.underlying26 rfl (infoSF _)) ?_
  (try simp only [Act.put, List.getElem_toArray, List.getElem_cons_succ, List.getElem_cons_zero, List.setIfInBounds_toArray, List.set_cons_zero, List.set_cons_succ])
  refine wpGrA_take (i := 13) (.agg (sF v13)) rfl (by kernel_rfl) (by kernel_rfl) (fun _ _ _ h => h) (yG_call (by rfl) (fun w' => by go_simp) (fun w' hb => Kv13.out w')) ?_
  (try simp only [Act.put, List.getElem_toArray, List.getElem_cons_succ, List.getElem_cons_zero, List.setIfInBounds_toArray, List.set_cons_zero, List.set_cons_succ])
  refine wpGrA_take (i := 14) (.bool true) rfl (by kernel_rfl) (by kernel_rfl) (fun _ _ _ h => h) (yG_call (by rfl) (fun w' => by go_simp) (fun w' hb => Q5.out w')) ?_
  (try simp only [Act.put, List.getElem_toArray, List.getElem_cons_succ, List.getElem_cons_zero, List.setIfInBounds_toArray, List.set_cons_zero, List.set_cons_succ])
  refine wpGrA_take (i := 15) (.bool true) rfl (by kernel_rfl) (by kernel_rfl) (fun _ _ _ h => h) (yG_val _ (by rfl) (fun w' _ => by (go_simp; try rfl))) ?_
  (try simp only [Act.put, List.getElem_toArray, List.getElem_cons_succ, List.getElem_cons_zero, List.setIfInBounds_toArray, List.set_cons_zero, List.set_cons_succ])
  refine wpGrA_take (i := 16) (.bool true) rfl (by kernel_rfl) (by kernel_rfl) (fun _ _ _ h => h) (yG_val _ (by rfl) (fun w' _ => by (go_simp; try rfl))) ?_
  (try simp only [Act.put, List.getElem_toArray, List.getElem_cons_succ, List.getElem_cons_zero, List.setIfInBounds_toArray, List.set_cons_zero, List.set_cons_succ])
  refine wpGrA_take (i := 17) (.agg (sF x)) rfl (by kernel_rfl) (by kernel_rfl) (fun _ _ _ h => h) (yG_part (by rfl) ST (.tmp 7) rfl p1 0 rfl ST (sF x) (sF x) (0, 0) _ S13.out.cl.2.2.2.1 (sF_all _) Try.underlying26 rfl (infoSF _)) ?_
  (try simp only [Act.put, List.getElem_toArray, List.getElem_cons_succ, List.getElem_cons_zero, List.setIfInBounds_toArray, List.set_cons_zero, List.set_cons_succ])
  refine wpGrA_take (i := 18) (.agg (sF x)) rfl (by kernel_rfl) (by kernel_rfl) (fun _ _ _ h => h) (yG_part (by rfl) ST (.tmp 7) rfl p1 0 rfl ST (sF x) (sF x) (0, 0) _ S13.out.cl.2.2.2.1 (sF_all _) Try.underlying26 rfl (infoSF _)) ?_
  (try simp only [Act.put, List.getElem_toArray, List.getElem_cons_succ, List.getElem_cons_zero, List.setIfInBounds_toArray, List.set_cons_zero, List.set_cons_succ])
  refine wpGrA_take (i := 19) (.agg (sF v14)) rfl (by kernel_rfl) (by kernel_rfl) (fun _ _ _ h => h) (yG_call (by rfl) (fun w' => by go_simp) (fun w' hb => Kv14.out w')) ?_
  (try simp only [Act.put, List.getElem_toArray, List.getElem_cons_succ, List.getElem_cons_zero, List.setIfInBounds_toArray, List.set_cons_zero, List.set_cons_succ])
  refine wpGrA_take (i := 20) (.agg (sF v15)) rfl (by kernel_rfl) (by kernel_rfl) (fun _ _ _ h => h) (yG_call (by rfl) (fun w' => by go_simp) (fun w' hb => Kv15.out w')) ?_
  (try simp only [Act.put, List.getElem_toArray, List.getElem_cons_succ, List.getElem_cons_zero, List.setIfInBounds_toArray, List.set_cons_zero, List.set_cons_succ])
  refine wpGrA_take (i := 21) (.agg (zS)) rfl (by kernel_rfl) (by kernel_rfl) (fun _ _ _ h => h) (yG_build (by rfl) ST _ rfl [] rfl _ builtS) ?_
  (try simp only [Act.put, List.getElem_toArray, List.getElem_cons_succ, List.getElem_cons_zero, List.setIfInBounds_toArray, List.set_cons_zero, List.set_cons_succ])
  refine wpGrA_take (i := 22) (.bool true) rfl (by kernel_rfl) (by kernel_rfl) (fun _ _ _ h => h) (yG_call (by rfl) (fun w' => by go_simp) (fun w' hb => Q6.out w')) ?_
  (try simp only [Act.put, List.getElem_toArray, List.getElem_cons_succ, List.getElem_cons_zero, List.setIfInBounds_toArray, List.set_cons_zero, List.set_cons_succ])
  refine wpGrA_take (i := 23) (.bool true) rfl (by kernel_rfl) (by kernel_rfl) (fun _ _ _ h => h) (yG_val _ (by rfl) (fun w' _ => by (go_simp; try rfl))) ?_
  (try simp only [Act.put, List.getElem_toArray, List.getElem_cons_succ, List.getElem_cons_zero, List.setIfInBounds_toArray, List.set_cons_zero, List.set_cons_succ])
  refine wpGrA_take (i := 24) (.bool true) rfl (by kernel_rfl) (by kernel_rfl) (fun _ _ _ h => h) (yG_val _ (by rfl) (fun w' _ => by (go_simp; try rfl))) ?_
  (try simp only [Act.put, List.getElem_toArray, List.getElem_cons_succ, List.getElem_cons_zero, List.setIfInBounds_toArray, List.set_cons_zero, List.set_cons_succ])
  refine wpGrA_take (i := 25) (.agg (sF x)) rfl (by kernel_rfl) (by kernel_rfl) (fun _ _ _ h => h) (yG_part (by rfl) ST (.tmp 7) rfl p1 0 rfl ST (sF x) (sF x) (0, 0) _ S13.out.cl.2.2.2.1 (sF_all _) Try.underlying26 rfl (infoSF _)) ?_
  (try simp only [Act.put, List.getElem_toArray, List.getElem_cons_succ, List.getElem_cons_zero, List.setIfInBounds_toArray, List.set_cons_zero, List.set_cons_succ])
  refine wpGrA_take (i := 26) (.agg (sF u)) rfl (by kernel_rfl) (by kernel_rfl) (fun _ _ _ h => h) (yG_part (by rfl) ST (.tmp 10) rfl p9 0 rfl ST (sF u) (sF u) (0, 0) _ S13.out.cl.1 (sF_all _) Try.underlying26 rfl (infoSF _)) ?_
  (try simp only [Act.put, List.getElem_toArray, List.getElem_cons_succ, List.getElem_cons_zero, List.setIfInBounds_toArray, List.set_cons_zero, List.set_cons_succ])
  refine wpGrA_take (i := 27) (.agg (sF v16)) rfl (by kernel_rfl) (by kernel_rfl) (fun _ _ _ h => h) (yG_call (by rfl) (fun w' => by go_simp) (fun w' hb => Kv16.out w')) ?_
  (try simp only [Act.put, List.getElem_toArray, List.getElem_cons_succ, List.getElem_cons_zero, List.setIfInBounds_toArray, List.set_cons_zero, List.set_cons_succ])
  refine wpGrA_take (i := 28) (.agg (sF x)) rfl (by kernel_rfl) (by kernel_rfl) (fun _ _ _ h => h) (yG_part (by rfl) ST (.tmp 7) rfl p1 0 rfl ST (sF x) (sF x) (0, 0) _ S13.out.cl.2.2.2.1 (sF_all _) Try.underlying26 rfl (infoSF _)) ?_
  (try simp only [Act.put, List.getElem_toArray, List.getElem_cons_succ, List.getElem_cons_zero, List.setIfInBounds_toArray, List.set_cons_zero, List.set_cons_succ])
  refine wpGrA_take (i := 29) (.bool true) rfl (by kernel_rfl) (by kernel_rfl) (fun _ _ _ h => h) (yG_call (by rfl) (fun w' => by go_simp) (fun w' hb => Q7.out w')) ?_
  (try simp only [Act.put, List.getElem_toArray, List.getElem_cons_succ, List.getElem_cons_zero, List.setIfInBounds_toArray, List.set_cons_zero, List.set_cons_succ])
  refine wpGrA_take (i := 30) (.bool true) rfl (by kernel_rfl) (by kernel_rfl) (fun _ _ _ h => h) (yG_val _ (by rfl) (fun w' _ => by (go_simp; try rfl))) ?_
  (try simp only [Act.put, List.getElem_toArray, List.getElem_cons_succ, List.getElem_cons_zero, List.setIfInBounds_toArray, List.set_cons_zero, List.set_cons_succ])
  refine wpGrA_take (i := 31) (.bool true) rfl (by kernel_rfl) (by kernel_rfl) (fun _ _ _ h => h) (yG_val _ (by rfl) (fun w' _ => by (go_simp; try rfl))) ?_
  (try simp only [Act.put, List.getElem_toArray, List.getElem_cons_succ, List.getElem_cons_zero, List.setIfInBounds_toArray, List.set_cons_zero, List.set_cons_succ])
  refine wpGrA_take (i := 32) (.agg (sF x)) rfl (by kernel_rfl) (by kernel_rfl) (fun _ _ _ h => h) (yG_part (by rfl) ST (.tmp 7) rfl p1 0 rfl ST (sF x) (sF x) (0, 0) _ S13.out.cl.2.2.2.1 (sF_all _) Try.underlying26 rfl (infoSF _)) ?_
  (try simp only [Act.put, List.getElem_toArray, List.getElem_cons_succ, List.getElem_cons_zero, List.setIfInBounds_toArray, List.set_cons_zero, List.set_cons_succ])
  refine wpGrA_take (i := 33) (.agg (sF u)) rfl (by kernel_rfl) (by kernel_rfl) (fun _ _ _ h => h) (yG_part (by rfl) ST (.tmp 10) rfl p9 0 rfl ST (sF u) (sF u) (0, 0) _ S13.out.cl.1 (sF_all _) Try.underlying26 rfl (infoSF _)) ?_
  (try simp only [Act.put, List.getElem_toArray, List.getElem_cons_succ, List.getElem_cons_zero, List.setIfInBounds_toArray, List.set_cons_zero, List.set_cons_succ])
  refine wpGrA_take (i := 34) (.agg (sF v17)) rfl (by kernel_rfl) (by kernel_rfl) (fun _ _ _ h => h) (yG_call (by rfl) (fun w' => by go_simp) (fun w' hb => Kv17.out w')) ?_
  (try simp only [Act.put, List.getElem_toArray, List.getElem_cons_succ, List.getElem_cons_zero, List.setIfInBounds_toArray, List.set_cons_zero, List.set_cons_succ])
  refine wpGrA_take (i := 35) (.agg (sF v18)) rfl (by kernel_rfl) (by kernel_rfl) (fun _ _ _ h => h) (yG_call (by rfl) (fun w' => by go_simp) (fun w' hb => Kv18.out w')) ?_
  (try simp only [Act.put, List.getElem_toArray, List.getElem_cons_succ, List.getElem_cons_zero, List.setIfInBounds_toArray, List.set_cons_zero, List.set_cons_succ])
  refine wpGrA_take (i := 36) (.agg (sF x)) rfl (by kernel_rfl) (by kernel_rfl) (fun _ _ _ h => h) (yG_part (by rfl) ST (.tmp 7) rfl p1 0 rfl ST (sF x) (sF x) (0, 0) _ S13.out.cl.2.2.2.1 (sF_all _) Try.underlying26 rfl (infoSF _)) ?_
  (try simp only [Act.put, List.getElem_toArray, List.getElem_cons_succ, List.getElem_cons_zero, List.setIfInBounds_toArray, List.set_cons_zero, List.set_cons_succ])
  refine wpGrA_take (i := 37) (.agg (sF v14)) rfl (by kernel_rfl) (by kernel_rfl) (fun _ _ _ h => h) (yG_call (by rfl) (fun w' => by go_simp) (fun w' hb => Kv14.out w')) ?_
  (try simp only [Act.put, List.getElem_toArray, List.getElem_cons_succ, List.getElem_cons_zero, List.setIfInBounds_toArray, List.set_cons_zero, List.set_cons_succ])
  refine wpGrA_take (i := 38) (.bool true) rfl (by kernel_rfl) (by kernel_rfl) (fun _ _ _ h => h) (yG_call (by rfl) (fun w' => by go_simp) (fun w' hb => Q8.out w')) ?_
  (try simp only [Act.put, List.getElem_toArray, List.getElem_cons_succ, List.getElem_cons_zero, List.setIfInBounds_toArray, List.set_cons_zero, List.set_cons_succ])
  refine wpGrA_take (i := 39) (.bool true) rfl (by kernel_rfl) (by kernel_rfl) (fun _ _ _ h => h) (yG_val _ (by rfl) (fun w' _ => by (go_simp; try rfl))) ?_
  (try simp only [Act.put, List.getElem_toArray, List.getElem_cons_succ, List.getElem_cons_zero, List.setIfInBounds_toArray, List.set_cons_zero, List.set_cons_succ])
  refine wpGrA_take (i := 40) (.bool true) rfl (by kernel_rfl) (by kernel_rfl) (fun _ _ _ h => h) (yG_val _ (by rfl) (fun w' _ => by (go_simp; try rfl))) ?_
  (try simp only [Act.put, List.getElem_toArray, List.getElem_cons_succ, List.getElem_cons_zero, List.setIfInBounds_toArray, List.set_cons_zero, List.set_cons_succ])
  refine wpGrA_take (i := 41) (.agg (sF x)) rfl (by kernel_rfl) (by kernel_rfl) (fun _ _ _ h => h) (yG_part (by rfl) ST (.tmp 7) rfl p1 0 rfl ST (sF x) (sF x) (0, 0) _ S13.out.cl.2.2.2.1 (sF_all _) Try.underlying26 rfl (infoSF _)) ?_
  (try simp only [Act.put, List.getElem_toArray, List.getElem_cons_succ, List.getElem_cons_zero, List.setIfInBounds_toArray, List.set_cons_zero, List.set_cons_succ])
  refine wpGrA_take (i := 44) (.agg (sF x)) rfl (by kernel_rfl) (by kernel_rfl) (fun _ _ _ h => h) (yG_part (by rfl) ST (.tmp 7) rfl p1 0 rfl ST (sF x) (sF x) (0, 0) _ S13.out.cl.2.2.2.1 (sF_all _) Try.underlying26 rfl (infoSF _)) ?_
  (try simp only [Act.put, List.getElem_toArray, List.getElem_cons_succ, List.getElem_cons_zero, List.setIfInBounds_toArray, List.set_cons_zero, List.set_cons_succ])
  refine wpGrA_bytes (i := 42) (xb) rfl (by kernel_rfl) (by rfl) (fun w' => by go_simp) (fun w' hb => HBX.out w') ?_
  intro A14 c14 w14 hb hs
  have S14 : Hid (St w w14 [(p9, sF u, ST), (p3, sF z, ST), (p2, sF y, ST), (p1, sF x, ST)] [(A14, c14, bvs (xb)), ((some ⟨p8, 0, none⟩), 1, bvs [1])]) := hid ((S13.out.on hb).more hs)
  clear hb hs S13
  (try simp only [Act.put, List.getElem_toArray, List.getElem_cons_succ, List.getElem_cons_zero, List.setIfInBounds_toArray, List.set_cons_zero, List.set_cons_succ])
  refine wpGrA_take (i := 43) (.agg (sF x)) rfl (by kernel_rfl) (by kernel_rfl) (fun _ _ _ h => h) (yG_call (by rfl) (fun w' => by go_simp) (fun w' hb => HOB.out _ _ w' (S14.out.on hb).sq.1)) ?_
  (try simp only [Act.put, List.getElem_toArray, List.getElem_cons_succ, List.getElem_cons_zero, List.setIfInBounds_toArray, List.set_cons_zero, List.set_cons_succ])
  refine wpGrA_take (i := 45) (.bool true) rfl (by kernel_rfl) (by kernel_rfl) (fun _ _ _ h => h) (yG_call (by rfl) (fun w' => by go_simp) (fun w' hb => Q9.out w')) ?_
  (try simp only [Act.put, List.getElem_toArray, List.getElem_cons_succ, List.getElem_cons_zero, List.setIfInBounds_toArray, List.set_cons_zero, List.set_cons_succ])
  refine wpGrA_take (i := 46) (.bool true) rfl (by kernel_rfl) (by kernel_rfl) (fun _ _ _ h => h) (yG_val _ (by rfl) (fun w' _ => by (go_simp; try rfl))) ?_
  (try simp only [Act.put, List.getElem_toArray, List.getElem_cons_succ, List.getElem_cons_zero, List.setIfInBounds_toArray, List.set_cons_zero, List.set_cons_succ])
  refine wpGrA_end (by kernel_rfl) ?_
  intro w15 hb
  have S15 := hid (S14.out.on hb)
  clear hb S14
  refine wpLA_here ?_
  refine wpLA_take (.bool true) (yG_val _ (by rfl) (fun w' _ => by (go_simp; try rfl))) ?_
  (try simp only [Act.put, List.getElem_toArray, List.getElem_cons_succ, List.getElem_cons_zero, List.setIfInBounds_toArray, List.set_cons_zero, List.set_cons_succ])
  refine wpLA_end ?_
  intro w16 hb
  have S16 := hid (S15.out.on hb)
  clear hb S15
  go_wp2_with fail
  go_ret
  exact ⟨rfl, S16.out.below⟩
end Go.Proofs.Ytacikkhhacladaa
