/-
  Texts of this claim in one file: CuC, CuM.
-/
import Derived.Test.YtgehfbcagaaggaaGreatDoorPk4
import Derived.Test.YtgehfbcagaaggaaGreatDoorPk16
import Derived.Test.YtgehfbcagaaggaaGreatDoorPk11
import Derived.Test.YtgehfbcagaaggaaGreatDoorPk45
import Derived.Test.YtgehfbcagaaggaaGreatDoorPk46
import Derived.Test.YtgehfbcagaaggaaGreatDoorPk42
section
namespace Go.Proofs.YtgehfbcagaaggaaGreatDoor
section
open Go Go.RowKit
set_option linter.unusedVariables false
set_option linter.unusedSimpArgs false
set_option maxHeartbeats 1000000 in
theorem andC' {X Y Z T l m p A B C D q1 q2 q3 q4 : FF} (hA : A = (Y - X) * l) (hB : B = (Y + X) * m) (hD : D = Z + Z) (hC : C = T * p) (h1 : q1 = (B - A) * (D - C)) (h2 : q2 = (B + A) * (D + C)) (h3 : q3 = (D + C) * (D - C)) (h4 : q4 = (B - A) * (B + A)) (w : World) : Calls Tryz.prog 89 #[.agg (cR X Y Z T), .agg (cA l m p)] w fun e w' => e = .returned (.agg (cR q1 q2 q3 q4)) ∧ Below w.heap.size w w' := by
  obtain ⟨r1, hr1⟩ : ∃ v, v = Y - X := ⟨_, rfl⟩
  have K0 := subE hr1
  obtain ⟨r2, hr2⟩ : ∃ v, v = r1 * l := ⟨_, rfl⟩
  have K1 := mulE hr2
  obtain ⟨r3, hr3⟩ : ∃ v, v = Y + X := ⟨_, rfl⟩
  have K2 := addE hr3
  obtain ⟨r4, hr4⟩ : ∃ v, v = r3 * m := ⟨_, rfl⟩
  have K3 := mulE hr4
  obtain ⟨r5, hr5⟩ : ∃ v, v = Z + Z := ⟨_, rfl⟩
  have K4 := addE hr5
  obtain ⟨r6, hr6⟩ : ∃ v, v = T * p := ⟨_, rfl⟩
  have K5 := mulE hr6
  obtain ⟨r7, hr7⟩ : ∃ v, v = r4 - r2 := ⟨_, rfl⟩
  have K6 := subE hr7
  obtain ⟨r8, hr8⟩ : ∃ v, v = r5 + r6 := ⟨_, rfl⟩
  have K7 := addE hr8
  obtain ⟨r9, hr9⟩ : ∃ v, v = r4 + r2 := ⟨_, rfl⟩
  have K8 := addE hr9
  obtain ⟨r10, hr10⟩ : ∃ v, v = r5 - r6 := ⟨_, rfl⟩
  have K9 := subE hr10
  obtain ⟨r11, hr11⟩ : ∃ v, v = r7 * r10 := ⟨_, rfl⟩
  obtain ⟨r12, hr12⟩ : ∃ v, v = r9 * r8 := ⟨_, rfl⟩
  obtain ⟨r13, hr13⟩ : ∃ v, v = r8 * r10 := ⟨_, rfl⟩
  obtain ⟨r14, hr14⟩ : ∃ v, v = r7 * r9 := ⟨_, rfl⟩
  have K10 := crossedC (x := r7) (u := r8) (y := r9) (k := r10) hr11 hr12 hr13 hr14
  have HE : cR q1 q2 q3 q4 = cR r11 r12 r13 r14 := by
    subst hA hB hD hC h1 h2 h3 h4
    subst hr14 hr13 hr12 hr11 hr10 hr9 hr8 hr7 hr6 hr5 hr4 hr3 hr2 hr1
    rfl
  rw [HE]
  clear HE hA hB hD hC h1 h2 h3 h4 hr1 hr2 hr3 hr4 hr5 hr6 hr7 hr8 hr9 hr10 hr11 hr12 hr13 hr14
  go_enter Tryz.func89, Tryz.ntmps89
  have S0 : Hid (St w w [] []) := hid (St.start w)
  go_upto_region 0 with fail
  refine wpLA_start ?_
  refine wpLA_box (cR X Y Z T) (by rfl) rfl rfl ?_
  intro p1 w1 hp hz hb
  have S1 : Hid (St w w1 [(p1, cR X Y Z T, RT)] []) := hid (S0.out.alloc hb hp hz)
  clear hp hz hb S0
  (try simp only [Act.put, List.getElem_toArray, List.getElem_cons_succ, List.getElem_cons_zero, List.setIfInBounds_toArray, List.set_cons_zero, List.set_cons_succ])
  refine wpLA_box (cA l m p) (by rfl) rfl rfl ?_
  intro p2 w2 hp hz hb
  have S2 : Hid (St w w2 [(p2, cA l m p, AT), (p1, cR X Y Z T, RT)] []) := hid (S1.out.alloc hb hp hz)
  clear hp hz hb S1
  (try simp only [Act.put, List.getElem_toArray, List.getElem_cons_succ, List.getElem_cons_zero, List.setIfInBounds_toArray, List.set_cons_zero, List.set_cons_succ])
  refine wpLA_alloc (by rfl) rfl zeroRc ?_
  intro p3 w3 hp hz hb
  have S3 : Hid (St w w3 [(p3, cR 0 0 0 0, RT), (p2, cA l m p, AT), (p1, cR X Y Z T, RT)] []) := hid (S2.out.alloc hb hp hz)
  clear hp hz hb S2
  (try simp only [Act.put, List.getElem_toArray, List.getElem_cons_succ, List.getElem_cons_zero, List.setIfInBounds_toArray, List.set_cons_zero, List.set_cons_succ])
  refine wpLA_end ?_
  intro w4 hb
  have S4 := hid (S3.out.on hb)
  clear hb S3
  go_upto_region 1 with fail
  refine wp_region_grA 18 (by kernel_rfl) (by decide) ?_
  refine wpGrA_take (i := 0) (.pointer (some ⟨p1, 4, none⟩)) rfl (by kernel_rfl) (by kernel_rfl) (fun _ _ _ h => h) (yG_val _ (by rfl) (fun w' _ => by (go_simp; try rfl))) ?_
  (try simp only [Act.put, List.getElem_toArray, List.getElem_cons_succ, List.getElem_cons_zero, List.setIfInBounds_toArray, List.set_cons_zero, List.set_cons_succ])
  refine wpGrA_take (i := 1) (.agg (eF Y)) rfl (by kernel_rfl) (by kernel_rfl) (fun _ _ _ h => h) (yG_part (by rfl) ET (.tmp 9) rfl p1 4 rfl RT (cR X Y Z T) (eF Y) (0, 0) _ S4.out.cl.2.2.1 (cR_4 X Y Z T) Tryz.underlying80 rfl (infoF Y)) ?_
  (try simp only [Act.put, List.getElem_toArray, List.getElem_cons_succ, List.getElem_cons_zero, List.setIfInBounds_toArray, List.set_cons_zero, List.set_cons_succ])
  refine wpGrA_take (i := 2) (.pointer (some ⟨p1, 0, none⟩)) rfl (by kernel_rfl) (by kernel_rfl) (fun _ _ _ h => h) (yG_val _ (by rfl) (fun w' _ => by (go_simp; try rfl))) ?_
  (try simp only [Act.put, List.getElem_toArray, List.getElem_cons_succ, List.getElem_cons_zero, List.setIfInBounds_toArray, List.set_cons_zero, List.set_cons_succ])
  refine wpGrA_take (i := 3) (.agg (eF X)) rfl (by kernel_rfl) (by kernel_rfl) (fun _ _ _ h => h) (yG_part (by rfl) ET (.tmp 11) rfl p1 0 rfl RT (cR X Y Z T) (eF X) (0, 0) _ S4.out.cl.2.2.1 (cR_0 X Y Z T) Tryz.underlying80 rfl (infoF X)) ?_
  (try simp only [Act.put, List.getElem_toArray, List.getElem_cons_succ, List.getElem_cons_zero, List.setIfInBounds_toArray, List.set_cons_zero, List.set_cons_succ])
  refine wpGrA_take (i := 4) (.agg (eF r1)) rfl (by kernel_rfl) (by kernel_rfl) (fun _ _ _ h => h) (yG_call (by rfl) (fun w' => by go_simp) (fun w' hb => K0.out w')) ?_
  (try simp only [Act.put, List.getElem_toArray, List.getElem_cons_succ, List.getElem_cons_zero, List.setIfInBounds_toArray, List.set_cons_zero, List.set_cons_succ])
  refine wpGrA_take (i := 5) (.pointer (some ⟨p2, 0, none⟩)) rfl (by kernel_rfl) (by kernel_rfl) (fun _ _ _ h => h) (yG_val _ (by rfl) (fun w' _ => by (go_simp; try rfl))) ?_
  (try simp only [Act.put, List.getElem_toArray, List.getElem_cons_succ, List.getElem_cons_zero, List.setIfInBounds_toArray, List.set_cons_zero, List.set_cons_succ])
  refine wpGrA_take (i := 6) (.agg (eF l)) rfl (by kernel_rfl) (by kernel_rfl) (fun _ _ _ h => h) (yG_part (by rfl) ET (.tmp 14) rfl p2 0 rfl AT (cA l m p) (eF l) (0, 0) _ S4.out.cl.2.1 (cA_0 l m p) Tryz.underlying80 rfl (infoF l)) ?_
  (try simp only [Act.put, List.getElem_toArray, List.getElem_cons_succ, List.getElem_cons_zero, List.setIfInBounds_toArray, List.set_cons_zero, List.set_cons_succ])
  refine wpGrA_take (i := 7) (.agg (eF r2)) rfl (by kernel_rfl) (by kernel_rfl) (fun _ _ _ h => h) (yG_call (by rfl) (fun w' => by go_simp) (fun w' hb => K1.out w')) ?_
  (try simp only [Act.put, List.getElem_toArray, List.getElem_cons_succ, List.getElem_cons_zero, List.setIfInBounds_toArray, List.set_cons_zero, List.set_cons_succ])
  refine wpGrA_take (i := 8) (.pointer (some ⟨p1, 4, none⟩)) rfl (by kernel_rfl) (by kernel_rfl) (fun _ _ _ h => h) (yG_val _ (by rfl) (fun w' _ => by (go_simp; try rfl))) ?_
  (try simp only [Act.put, List.getElem_toArray, List.getElem_cons_succ, List.getElem_cons_zero, List.setIfInBounds_toArray, List.set_cons_zero, List.set_cons_succ])
  refine wpGrA_take (i := 9) (.agg (eF Y)) rfl (by kernel_rfl) (by kernel_rfl) (fun _ _ _ h => h) (yG_part (by rfl) ET (.tmp 17) rfl p1 4 rfl RT (cR X Y Z T) (eF Y) (0, 0) _ S4.out.cl.2.2.1 (cR_4 X Y Z T) Tryz.underlying80 rfl (infoF Y)) ?_
  (try simp only [Act.put, List.getElem_toArray, List.getElem_cons_succ, List.getElem_cons_zero, List.setIfInBounds_toArray, List.set_cons_zero, List.set_cons_succ])
  refine wpGrA_take (i := 10) (.pointer (some ⟨p1, 0, none⟩)) rfl (by kernel_rfl) (by kernel_rfl) (fun _ _ _ h => h) (yG_val _ (by rfl) (fun w' _ => by (go_simp; try rfl))) ?_
  (try simp only [Act.put, List.getElem_toArray, List.getElem_cons_succ, List.getElem_cons_zero, List.setIfInBounds_toArray, List.set_cons_zero, List.set_cons_succ])
  refine wpGrA_take (i := 11) (.agg (eF X)) rfl (by kernel_rfl) (by kernel_rfl) (fun _ _ _ h => h) (yG_part (by rfl) ET (.tmp 19) rfl p1 0 rfl RT (cR X Y Z T) (eF X) (0, 0) _ S4.out.cl.2.2.1 (cR_0 X Y Z T) Tryz.underlying80 rfl (infoF X)) ?_
  (try simp only [Act.put, List.getElem_toArray, List.getElem_cons_succ, List.getElem_cons_zero, List.setIfInBounds_toArray, List.set_cons_zero, List.set_cons_succ])
  refine wpGrA_take (i := 12) (.agg (eF r3)) rfl (by kernel_rfl) (by kernel_rfl) (fun _ _ _ h => h) (yG_call (by rfl) (fun w' => by go_simp) (fun w' hb => K2.out w')) ?_
  (try simp only [Act.put, List.getElem_toArray, List.getElem_cons_succ, List.getElem_cons_zero, List.setIfInBounds_toArray, List.set_cons_zero, List.set_cons_succ])
  refine wpGrA_take (i := 13) (.pointer (some ⟨p2, 4, none⟩)) rfl (by kernel_rfl) (by kernel_rfl) (fun _ _ _ h => h) (yG_val _ (by rfl) (fun w' _ => by (go_simp; try rfl))) ?_
  (try simp only [Act.put, List.getElem_toArray, List.getElem_cons_succ, List.getElem_cons_zero, List.setIfInBounds_toArray, List.set_cons_zero, List.set_cons_succ])
  refine wpGrA_take (i := 14) (.agg (eF m)) rfl (by kernel_rfl) (by kernel_rfl) (fun _ _ _ h => h) (yG_part (by rfl) ET (.tmp 22) rfl p2 4 rfl AT (cA l m p) (eF m) (0, 0) _ S4.out.cl.2.1 (cA_4 l m p) Tryz.underlying80 rfl (infoF m)) ?_
  (try simp only [Act.put, List.getElem_toArray, List.getElem_cons_succ, List.getElem_cons_zero, List.setIfInBounds_toArray, List.set_cons_zero, List.set_cons_succ])
  refine wpGrA_take (i := 15) (.agg (eF r4)) rfl (by kernel_rfl) (by kernel_rfl) (fun _ _ _ h => h) (yG_call (by rfl) (fun w' => by go_simp) (fun w' hb => K3.out w')) ?_
  (try simp only [Act.put, List.getElem_toArray, List.getElem_cons_succ, List.getElem_cons_zero, List.setIfInBounds_toArray, List.set_cons_zero, List.set_cons_succ])
  refine wpGrA_alloc2 (i := 16) (j := 17) rfl rfl rfl rfl rfl rfl zeroF zeroF rfl rfl (by kernel_rfl) ?_
  intro p5_0 p5_1 w5 hp hq hne hz hy hb
  have S5 : Hid (St w w5 [(p5_0, eF 0, ET), (p5_1, eF 0, ET), (p3, cR 0 0 0 0, RT), (p2, cA l m p, AT), (p1, cR X Y Z T, RT)] []) := hid (S4.out.alloc2 hb hp hq hne hz hy)
  clear hb hp hq hne hz hy S4
  (try simp only [Act.put, List.getElem_toArray, List.getElem_cons_succ, List.getElem_cons_zero, List.setIfInBounds_toArray, List.set_cons_zero, List.set_cons_succ])
  refine wpLA_here ?_
  refine wpLA_store rfl ET (.tmp 5) (.tmp 16) rfl p5_0 (eF r2) rfl rfl ET (eF 0) S5.out.cl.1 (infoF r2) ((eF_size 0).trans (eF_size r2).symm) (eF_one r2) ?_
  intro wx hb
  have S6 : Hid (St w (wx.setRow p5_0 (eF r2)) [(p5_0, eF r2, ET), (p5_1, eF 0, ET), (p3, cR 0 0 0 0, RT), (p2, cA l m p, AT), (p1, cR X Y Z T, RT)] []) := hid ((S5.out.on hb).put0 0 rfl)
  clear hb S5
  generalize wx.setRow p5_0 (eF r2) = w6 at S6 ⊢
  (try simp only [Act.put, List.getElem_toArray, List.getElem_cons_succ, List.getElem_cons_zero, List.setIfInBounds_toArray, List.set_cons_zero, List.set_cons_succ])
  refine wpLA_store rfl ET (.tmp 6) (.tmp 24) rfl p5_1 (eF r4) rfl rfl ET (eF 0) S6.out.cl.2.1 (infoF r4) ((eF_size 0).trans (eF_size r4).symm) (eF_one r4) ?_
  intro wx hb
  have S7 : Hid (St w (wx.setRow p5_1 (eF r4)) [(p5_0, eF r2, ET), (p5_1, eF r4, ET), (p3, cR 0 0 0 0, RT), (p2, cA l m p, AT), (p1, cR X Y Z T, RT)] []) := hid ((S6.out.on hb).put0 1 rfl)
  clear hb S6
  generalize wx.setRow p5_1 (eF r4) = w7 at S7 ⊢
  (try simp only [Act.put, List.getElem_toArray, List.getElem_cons_succ, List.getElem_cons_zero, List.setIfInBounds_toArray, List.set_cons_zero, List.set_cons_succ])
  refine wpLA_end ?_
  intro w8 hb
  have S8 := hid (S7.out.on hb)
  clear hb S7
  go_upto_region 2 with fail
  refine wp_region_grA 12 (by kernel_rfl) (by decide) ?_
  refine wpGrA_take (i := 0) (.pointer (some ⟨p1, 8, none⟩)) rfl (by kernel_rfl) (by kernel_rfl) (fun _ _ _ h => h) (yG_val _ (by rfl) (fun w' _ => by (go_simp; try rfl))) ?_
  (try simp only [Act.put, List.getElem_toArray, List.getElem_cons_succ, List.getElem_cons_zero, List.setIfInBounds_toArray, List.set_cons_zero, List.set_cons_succ])
  refine wpGrA_take (i := 1) (.agg (eF Z)) rfl (by kernel_rfl) (by kernel_rfl) (fun _ _ _ h => h) (yG_part (by rfl) ET (.tmp 25) rfl p1 8 rfl RT (cR X Y Z T) (eF Z) (0, 0) _ S8.out.cl.2.2.2.2.1 (cR_8 X Y Z T) Tryz.underlying80 rfl (infoF Z)) ?_
  (try simp only [Act.put, List.getElem_toArray, List.getElem_cons_succ, List.getElem_cons_zero, List.setIfInBounds_toArray, List.set_cons_zero, List.set_cons_succ])
  refine wpGrA_take (i := 2) (.pointer (some ⟨p1, 8, none⟩)) rfl (by kernel_rfl) (by kernel_rfl) (fun _ _ _ h => h) (yG_val _ (by rfl) (fun w' _ => by (go_simp; try rfl))) ?_
  (try simp only [Act.put, List.getElem_toArray, List.getElem_cons_succ, List.getElem_cons_zero, List.setIfInBounds_toArray, List.set_cons_zero, List.set_cons_succ])
  refine wpGrA_take (i := 3) (.agg (eF Z)) rfl (by kernel_rfl) (by kernel_rfl) (fun _ _ _ h => h) (yG_part (by rfl) ET (.tmp 27) rfl p1 8 rfl RT (cR X Y Z T) (eF Z) (0, 0) _ S8.out.cl.2.2.2.2.1 (cR_8 X Y Z T) Tryz.underlying80 rfl (infoF Z)) ?_
  (try simp only [Act.put, List.getElem_toArray, List.getElem_cons_succ, List.getElem_cons_zero, List.setIfInBounds_toArray, List.set_cons_zero, List.set_cons_succ])
  refine wpGrA_take (i := 4) (.agg (eF r5)) rfl (by kernel_rfl) (by kernel_rfl) (fun _ _ _ h => h) (yG_call (by rfl) (fun w' => by go_simp) (fun w' hb => K4.out w')) ?_
  (try simp only [Act.put, List.getElem_toArray, List.getElem_cons_succ, List.getElem_cons_zero, List.setIfInBounds_toArray, List.set_cons_zero, List.set_cons_succ])
  refine wpGrA_take (i := 5) (.pointer (some ⟨p1, 12, none⟩)) rfl (by kernel_rfl) (by kernel_rfl) (fun _ _ _ h => h) (yG_val _ (by rfl) (fun w' _ => by (go_simp; try rfl))) ?_
  (try simp only [Act.put, List.getElem_toArray, List.getElem_cons_succ, List.getElem_cons_zero, List.setIfInBounds_toArray, List.set_cons_zero, List.set_cons_succ])
  refine wpGrA_take (i := 6) (.agg (eF T)) rfl (by kernel_rfl) (by kernel_rfl) (fun _ _ _ h => h) (yG_part (by rfl) ET (.tmp 30) rfl p1 12 rfl RT (cR X Y Z T) (eF T) (0, 0) _ S8.out.cl.2.2.2.2.1 (cR_12 X Y Z T) Tryz.underlying80 rfl (infoF T)) ?_
  (try simp only [Act.put, List.getElem_toArray, List.getElem_cons_succ, List.getElem_cons_zero, List.setIfInBounds_toArray, List.set_cons_zero, List.set_cons_succ])
  refine wpGrA_take (i := 7) (.pointer (some ⟨p2, 8, none⟩)) rfl (by kernel_rfl) (by kernel_rfl) (fun _ _ _ h => h) (yG_val _ (by rfl) (fun w' _ => by (go_simp; try rfl))) ?_
  (try simp only [Act.put, List.getElem_toArray, List.getElem_cons_succ, List.getElem_cons_zero, List.setIfInBounds_toArray, List.set_cons_zero, List.set_cons_succ])
  refine wpGrA_take (i := 8) (.agg (eF p)) rfl (by kernel_rfl) (by kernel_rfl) (fun _ _ _ h => h) (yG_part (by rfl) ET (.tmp 32) rfl p2 8 rfl AT (cA l m p) (eF p) (0, 0) _ S8.out.cl.2.2.2.1 (cA_8 l m p) Tryz.underlying80 rfl (infoF p)) ?_
  (try simp only [Act.put, List.getElem_toArray, List.getElem_cons_succ, List.getElem_cons_zero, List.setIfInBounds_toArray, List.set_cons_zero, List.set_cons_succ])
  refine wpGrA_take (i := 9) (.agg (eF r6)) rfl (by kernel_rfl) (by kernel_rfl) (fun _ _ _ h => h) (yG_call (by rfl) (fun w' => by go_simp) (fun w' hb => K5.out w')) ?_
  (try simp only [Act.put, List.getElem_toArray, List.getElem_cons_succ, List.getElem_cons_zero, List.setIfInBounds_toArray, List.set_cons_zero, List.set_cons_succ])
  refine wpGrA_alloc2 (i := 10) (j := 11) rfl rfl rfl rfl rfl rfl zeroF zeroF rfl rfl (by kernel_rfl) ?_
  intro p9_0 p9_1 w9 hp hq hne hz hy hb
  have S9 : Hid (St w w9 [(p9_0, eF 0, ET), (p9_1, eF 0, ET), (p5_0, eF r2, ET), (p5_1, eF r4, ET), (p3, cR 0 0 0 0, RT), (p2, cA l m p, AT), (p1, cR X Y Z T, RT)] []) := hid (S8.out.alloc2 hb hp hq hne hz hy)
  clear hb hp hq hne hz hy S8
  (try simp only [Act.put, List.getElem_toArray, List.getElem_cons_succ, List.getElem_cons_zero, List.setIfInBounds_toArray, List.set_cons_zero, List.set_cons_succ])
  refine wpLA_here ?_
  refine wpLA_store rfl ET (.tmp 7) (.tmp 29) rfl p9_0 (eF r5) rfl rfl ET (eF 0) S9.out.cl.1 (infoF r5) ((eF_size 0).trans (eF_size r5).symm) (eF_one r5) ?_
  intro wx hb
  have S10 : Hid (St w (wx.setRow p9_0 (eF r5)) [(p9_0, eF r5, ET), (p9_1, eF 0, ET), (p5_0, eF r2, ET), (p5_1, eF r4, ET), (p3, cR 0 0 0 0, RT), (p2, cA l m p, AT), (p1, cR X Y Z T, RT)] []) := hid ((S9.out.on hb).put0 0 rfl)
  clear hb S9
  generalize wx.setRow p9_0 (eF r5) = w10 at S10 ⊢
  (try simp only [Act.put, List.getElem_toArray, List.getElem_cons_succ, List.getElem_cons_zero, List.setIfInBounds_toArray, List.set_cons_zero, List.set_cons_succ])
  refine wpLA_store rfl ET (.tmp 8) (.tmp 34) rfl p9_1 (eF r6) rfl rfl ET (eF 0) S10.out.cl.2.1 (infoF r6) ((eF_size 0).trans (eF_size r6).symm) (eF_one r6) ?_
  intro wx hb
  have S11 : Hid (St w (wx.setRow p9_1 (eF r6)) [(p9_0, eF r5, ET), (p9_1, eF r6, ET), (p5_0, eF r2, ET), (p5_1, eF r4, ET), (p3, cR 0 0 0 0, RT), (p2, cA l m p, AT), (p1, cR X Y Z T, RT)] []) := hid ((S10.out.on hb).put0 1 rfl)
  clear hb S10
  generalize wx.setRow p9_1 (eF r6) = w11 at S11 ⊢
  (try simp only [Act.put, List.getElem_toArray, List.getElem_cons_succ, List.getElem_cons_zero, List.setIfInBounds_toArray, List.set_cons_zero, List.set_cons_succ])
  refine wpLA_end ?_
  intro w12 hb
  have S12 := hid (S11.out.on hb)
  clear hb S11
  go_upto_region 3 with fail
  refine wp_region_grA 13 (by kernel_rfl) (by decide) ?_
  refine wpGrA_take (i := 0) (.agg (eF r4)) rfl (by kernel_rfl) (by kernel_rfl) (fun _ _ _ h => h) (yG_part (by rfl) ET (.tmp 6) rfl p5_1 0 rfl ET (eF r4) (eF r4) (0, 0) _ S12.out.cl.2.2.2.1 (eF_all r4) Tryz.underlying80 rfl (infoF r4)) ?_
  (try simp only [Act.put, List.getElem_toArray, List.getElem_cons_succ, List.getElem_cons_zero, List.setIfInBounds_toArray, List.set_cons_zero, List.set_cons_succ])
  refine wpGrA_take (i := 1) (.agg (eF r2)) rfl (by kernel_rfl) (by kernel_rfl) (fun _ _ _ h => h) (yG_part (by rfl) ET (.tmp 5) rfl p5_0 0 rfl ET (eF r2) (eF r2) (0, 0) _ S12.out.cl.2.2.1 (eF_all r2) Tryz.underlying80 rfl (infoF r2)) ?_
  (try simp only [Act.put, List.getElem_toArray, List.getElem_cons_succ, List.getElem_cons_zero, List.setIfInBounds_toArray, List.set_cons_zero, List.set_cons_succ])
  refine wpGrA_take (i := 2) (.agg (eF r7)) rfl (by kernel_rfl) (by kernel_rfl) (fun _ _ _ h => h) (yG_call (by rfl) (fun w' => by go_simp) (fun w' hb => K6.out w')) ?_
  (try simp only [Act.put, List.getElem_toArray, List.getElem_cons_succ, List.getElem_cons_zero, List.setIfInBounds_toArray, List.set_cons_zero, List.set_cons_succ])
  refine wpGrA_take (i := 3) (.agg (eF r5)) rfl (by kernel_rfl) (by kernel_rfl) (fun _ _ _ h => h) (yG_part (by rfl) ET (.tmp 7) rfl p9_0 0 rfl ET (eF r5) (eF r5) (0, 0) _ S12.out.cl.1 (eF_all r5) Tryz.underlying80 rfl (infoF r5)) ?_
  (try simp only [Act.put, List.getElem_toArray, List.getElem_cons_succ, List.getElem_cons_zero, List.setIfInBounds_toArray, List.set_cons_zero, List.set_cons_succ])
  refine wpGrA_take (i := 4) (.agg (eF r6)) rfl (by kernel_rfl) (by kernel_rfl) (fun _ _ _ h => h) (yG_part (by rfl) ET (.tmp 8) rfl p9_1 0 rfl ET (eF r6) (eF r6) (0, 0) _ S12.out.cl.2.1 (eF_all r6) Tryz.underlying80 rfl (infoF r6)) ?_
  (try simp only [Act.put, List.getElem_toArray, List.getElem_cons_succ, List.getElem_cons_zero, List.setIfInBounds_toArray, List.set_cons_zero, List.set_cons_succ])
  refine wpGrA_take (i := 5) (.agg (eF r8)) rfl (by kernel_rfl) (by kernel_rfl) (fun _ _ _ h => h) (yG_call (by rfl) (fun w' => by go_simp) (fun w' hb => K7.out w')) ?_
  (try simp only [Act.put, List.getElem_toArray, List.getElem_cons_succ, List.getElem_cons_zero, List.setIfInBounds_toArray, List.set_cons_zero, List.set_cons_succ])
  refine wpGrA_take (i := 6) (.agg (eF r4)) rfl (by kernel_rfl) (by kernel_rfl) (fun _ _ _ h => h) (yG_part (by rfl) ET (.tmp 6) rfl p5_1 0 rfl ET (eF r4) (eF r4) (0, 0) _ S12.out.cl.2.2.2.1 (eF_all r4) Tryz.underlying80 rfl (infoF r4)) ?_
  (try simp only [Act.put, List.getElem_toArray, List.getElem_cons_succ, List.getElem_cons_zero, List.setIfInBounds_toArray, List.set_cons_zero, List.set_cons_succ])
  refine wpGrA_take (i := 7) (.agg (eF r2)) rfl (by kernel_rfl) (by kernel_rfl) (fun _ _ _ h => h) (yG_part (by rfl) ET (.tmp 5) rfl p5_0 0 rfl ET (eF r2) (eF r2) (0, 0) _ S12.out.cl.2.2.1 (eF_all r2) Tryz.underlying80 rfl (infoF r2)) ?_
  (try simp only [Act.put, List.getElem_toArray, List.getElem_cons_succ, List.getElem_cons_zero, List.setIfInBounds_toArray, List.set_cons_zero, List.set_cons_succ])
  refine wpGrA_take (i := 8) (.agg (eF r9)) rfl (by kernel_rfl) (by kernel_rfl) (fun _ _ _ h => h) (yG_call (by rfl) (fun w' => by go_simp) (fun w' hb => K8.out w')) ?_
  (try simp only [Act.put, List.getElem_toArray, List.getElem_cons_succ, List.getElem_cons_zero, List.setIfInBounds_toArray, List.set_cons_zero, List.set_cons_succ])
  refine wpGrA_take (i := 9) (.agg (eF r5)) rfl (by kernel_rfl) (by kernel_rfl) (fun _ _ _ h => h) (yG_part (by rfl) ET (.tmp 7) rfl p9_0 0 rfl ET (eF r5) (eF r5) (0, 0) _ S12.out.cl.1 (eF_all r5) Tryz.underlying80 rfl (infoF r5)) ?_
  (try simp only [Act.put, List.getElem_toArray, List.getElem_cons_succ, List.getElem_cons_zero, List.setIfInBounds_toArray, List.set_cons_zero, List.set_cons_succ])
  refine wpGrA_take (i := 10) (.agg (eF r6)) rfl (by kernel_rfl) (by kernel_rfl) (fun _ _ _ h => h) (yG_part (by rfl) ET (.tmp 8) rfl p9_1 0 rfl ET (eF r6) (eF r6) (0, 0) _ S12.out.cl.2.1 (eF_all r6) Tryz.underlying80 rfl (infoF r6)) ?_
  (try simp only [Act.put, List.getElem_toArray, List.getElem_cons_succ, List.getElem_cons_zero, List.setIfInBounds_toArray, List.set_cons_zero, List.set_cons_succ])
  refine wpGrA_take (i := 11) (.agg (eF r10)) rfl (by kernel_rfl) (by kernel_rfl) (fun _ _ _ h => h) (yG_call (by rfl) (fun w' => by go_simp) (fun w' hb => K9.out w')) ?_
  (try simp only [Act.put, List.getElem_toArray, List.getElem_cons_succ, List.getElem_cons_zero, List.setIfInBounds_toArray, List.set_cons_zero, List.set_cons_succ])
  refine wpGrA_take (i := 12) (.agg (cR r11 r12 r13 r14)) rfl (by kernel_rfl) (by kernel_rfl) (fun _ _ _ h => h) (yG_call (by rfl) (fun w' => by go_simp) (fun w' hb => K10.out w')) ?_
  (try simp only [Act.put, List.getElem_toArray, List.getElem_cons_succ, List.getElem_cons_zero, List.setIfInBounds_toArray, List.set_cons_zero, List.set_cons_succ])
  refine wpGrA_end (by kernel_rfl) ?_
  intro w13 hb
  have S13 := hid (S12.out.on hb)
  clear hb S12
  refine wpLA_here ?_
  refine wpLA_store rfl RT (.tmp 4) (.tmp 47) rfl p3 (cR r11 r12 r13 r14) rfl rfl RT (cR 0 0 0 0) S13.out.cl.2.2.2.2.1 (infoR r11 r12 r13 r14) ((cR_size 0 0 0 0).trans (cR_size r11 r12 r13 r14).symm) (cR_one r11 r12 r13 r14) ?_
  intro wx hb
  have S14 : Hid (St w (wx.setRow p3 (cR r11 r12 r13 r14)) [(p9_0, eF r5, ET), (p9_1, eF r6, ET), (p5_0, eF r2, ET), (p5_1, eF r4, ET), (p3, cR r11 r12 r13 r14, RT), (p2, cA l m p, AT), (p1, cR X Y Z T, RT)] []) := hid ((S13.out.on hb).put0 4 rfl)
  clear hb S13
  generalize wx.setRow p3 (cR r11 r12 r13 r14) = w14 at S14 ⊢
  (try simp only [Act.put, List.getElem_toArray, List.getElem_cons_succ, List.getElem_cons_zero, List.setIfInBounds_toArray, List.set_cons_zero, List.set_cons_succ])
  refine wpLA_end ?_
  intro w15 hb
  have S15 := hid (S14.out.on hb)
  clear hb S14
  go_wp2_with fail
  exact bodyPost_ret (v := .agg (cR r11 r12 r13 r14)) (results_cell_row rfl _ _ p3 RT _ (0, 0) _ rfl S15.out.cl.2.2.2.2.1 Tryz.underlying107 rfl (infoR r11 r12 r13 r14)) rfl ⟨rfl, S15.out.below⟩
theorem andC {X Y Z T l m p A B C D q1 q2 q3 q4 : FF} (hA : A = (Y - X) * l) (hB : B = (Y + X) * m) (hD : D = Z + Z) (hC : C = T * p) (h1 : q1 = (B - A) * (D - C)) (h2 : q2 = (B + A) * (D + C)) (h3 : q3 = (D + C) * (D - C)) (h4 : q4 = (B - A) * (B + A)) : Hid (∀ W : World, Calls Tryz.prog 89 #[.agg (cR X Y Z T), .agg (cA l m p)] W fun e w' => e = .returned (.agg (cR q1 q2 q3 q4)) ∧ Below W.heap.size W w') := hid fun W => andC' hA hB hD hC h1 h2 h3 h4 W
set_option maxHeartbeats 1000000 in
theorem twiceC' {X Y Z T A B C S D q1 q2 q3 q4 : FF} (hA : A = X * X) (hB : B = Y * Y) (hC : C = Z * Z) (hS : S = B + A) (hD : D = B - A) (h1 : q1 = ((X + Y) * (X + Y) - S) * (C + C - D)) (h2 : q2 = S * D) (h3 : q3 = D * (C + C - D)) (h4 : q4 = ((X + Y) * (X + Y) - S) * S) (w : World) : Calls Tryz.prog 105 #[.agg (cR X Y Z T)] w fun e w' => e = .returned (.agg (cR q1 q2 q3 q4)) ∧ Below w.heap.size w w' := by
  obtain ⟨r1, hr1⟩ : ∃ v, v = X * X := ⟨_, rfl⟩
  have K0 := sqE hr1
  obtain ⟨r2, hr2⟩ : ∃ v, v = Y * Y := ⟨_, rfl⟩
  have K1 := sqE hr2
  obtain ⟨r3, hr3⟩ : ∃ v, v = Z * Z := ⟨_, rfl⟩
  have K2 := sqE hr3
  obtain ⟨r4, hr4⟩ : ∃ v, v = r2 + r1 := ⟨_, rfl⟩
  have K3 := addE hr4
  obtain ⟨r5, hr5⟩ : ∃ v, v = r2 - r1 := ⟨_, rfl⟩
  have K4 := subE hr5
  obtain ⟨r6, hr6⟩ : ∃ v, v = X + Y := ⟨_, rfl⟩
  have K5 := addE hr6
  obtain ⟨r7, hr7⟩ : ∃ v, v = r6 * r6 := ⟨_, rfl⟩
  have K6 := sqE hr7
  obtain ⟨r8, hr8⟩ : ∃ v, v = r7 - r4 := ⟨_, rfl⟩
  have K7 := subE hr8
  obtain ⟨r9, hr9⟩ : ∃ v, v = r3 + r3 := ⟨_, rfl⟩
  have K8 := addE hr9
  obtain ⟨r10, hr10⟩ : ∃ v, v = r9 - r5 := ⟨_, rfl⟩
  have K9 := subE hr10
  obtain ⟨r11, hr11⟩ : ∃ v, v = r8 * r10 := ⟨_, rfl⟩
  obtain ⟨r12, hr12⟩ : ∃ v, v = r4 * r5 := ⟨_, rfl⟩
  obtain ⟨r13, hr13⟩ : ∃ v, v = r5 * r10 := ⟨_, rfl⟩
  obtain ⟨r14, hr14⟩ : ∃ v, v = r8 * r4 := ⟨_, rfl⟩
  have K10 := crossedC (x := r8) (u := r5) (y := r4) (k := r10) hr11 hr12 hr13 hr14
  have HE : cR q1 q2 q3 q4 = cR r11 r12 r13 r14 := by
    subst hA hB hC hS hD h1 h2 h3 h4
    subst hr14 hr13 hr12 hr11 hr10 hr9 hr8 hr7 hr6 hr5 hr4 hr3 hr2 hr1
    rfl
  rw [HE]
  clear HE hA hB hC hS hD h1 h2 h3 h4 hr1 hr2 hr3 hr4 hr5 hr6 hr7 hr8 hr9 hr10 hr11 hr12 hr13 hr14
  go_enter Tryz.func105, Tryz.ntmps105
  have S0 : Hid (St w w [] []) := hid (St.start w)
  go_upto_region 0 with fail
  refine wpLA_start ?_
  refine wpLA_box (cR X Y Z T) (by rfl) rfl rfl ?_
  intro p1 w1 hp hz hb
  have S1 : Hid (St w w1 [(p1, cR X Y Z T, RT)] []) := hid (S0.out.alloc hb hp hz)
  clear hp hz hb S0
  (try simp only [Act.put, List.getElem_toArray, List.getElem_cons_succ, List.getElem_cons_zero, List.setIfInBounds_toArray, List.set_cons_zero, List.set_cons_succ])
  refine wpLA_alloc (by rfl) rfl zeroRc ?_
  intro p2 w2 hp hz hb
  have S2 : Hid (St w w2 [(p2, cR 0 0 0 0, RT), (p1, cR X Y Z T, RT)] []) := hid (S1.out.alloc hb hp hz)
  clear hp hz hb S1
  (try simp only [Act.put, List.getElem_toArray, List.getElem_cons_succ, List.getElem_cons_zero, List.setIfInBounds_toArray, List.set_cons_zero, List.set_cons_succ])
  refine wpLA_end ?_
  intro w3 hb
  have S3 := hid (S2.out.on hb)
  clear hb S2
  go_upto_region 1 with fail
  refine wp_region_grA 12 (by kernel_rfl) (by decide) ?_
  refine wpGrA_take (i := 0) (.pointer (some ⟨p1, 0, none⟩)) rfl (by kernel_rfl) (by kernel_rfl) (fun _ _ _ h => h) (yG_val _ (by rfl) (fun w' _ => by (go_simp; try rfl))) ?_
  (try simp only [Act.put, List.getElem_toArray, List.getElem_cons_succ, List.getElem_cons_zero, List.setIfInBounds_toArray, List.set_cons_zero, List.set_cons_succ])
  refine wpGrA_take (i := 1) (.agg (eF X)) rfl (by kernel_rfl) (by kernel_rfl) (fun _ _ _ h => h) (yG_part (by rfl) ET (.tmp 8) rfl p1 0 rfl RT (cR X Y Z T) (eF X) (0, 0) _ S3.out.cl.2.1 (cR_0 X Y Z T) Tryz.underlying80 rfl (infoF X)) ?_
  (try simp only [Act.put, List.getElem_toArray, List.getElem_cons_succ, List.getElem_cons_zero, List.setIfInBounds_toArray, List.set_cons_zero, List.set_cons_succ])
  refine wpGrA_take (i := 2) (.agg (eF r1)) rfl (by kernel_rfl) (by kernel_rfl) (fun _ _ _ h => h) (yG_call (by rfl) (fun w' => by go_simp) (fun w' hb => K0.out w')) ?_
  (try simp only [Act.put, List.getElem_toArray, List.getElem_cons_succ, List.getElem_cons_zero, List.setIfInBounds_toArray, List.set_cons_zero, List.set_cons_succ])
  refine wpGrA_take (i := 3) (.pointer (some ⟨p1, 4, none⟩)) rfl (by kernel_rfl) (by kernel_rfl) (fun _ _ _ h => h) (yG_val _ (by rfl) (fun w' _ => by (go_simp; try rfl))) ?_
  (try simp only [Act.put, List.getElem_toArray, List.getElem_cons_succ, List.getElem_cons_zero, List.setIfInBounds_toArray, List.set_cons_zero, List.set_cons_succ])
  refine wpGrA_take (i := 4) (.agg (eF Y)) rfl (by kernel_rfl) (by kernel_rfl) (fun _ _ _ h => h) (yG_part (by rfl) ET (.tmp 11) rfl p1 4 rfl RT (cR X Y Z T) (eF Y) (0, 0) _ S3.out.cl.2.1 (cR_4 X Y Z T) Tryz.underlying80 rfl (infoF Y)) ?_
  (try simp only [Act.put, List.getElem_toArray, List.getElem_cons_succ, List.getElem_cons_zero, List.setIfInBounds_toArray, List.set_cons_zero, List.set_cons_succ])
  refine wpGrA_take (i := 5) (.agg (eF r2)) rfl (by kernel_rfl) (by kernel_rfl) (fun _ _ _ h => h) (yG_call (by rfl) (fun w' => by go_simp) (fun w' hb => K1.out w')) ?_
  (try simp only [Act.put, List.getElem_toArray, List.getElem_cons_succ, List.getElem_cons_zero, List.setIfInBounds_toArray, List.set_cons_zero, List.set_cons_succ])
  refine wpGrA_take (i := 6) (.pointer (some ⟨p1, 8, none⟩)) rfl (by kernel_rfl) (by kernel_rfl) (fun _ _ _ h => h) (yG_val _ (by rfl) (fun w' _ => by (go_simp; try rfl))) ?_
  (try simp only [Act.put, List.getElem_toArray, List.getElem_cons_succ, List.getElem_cons_zero, List.setIfInBounds_toArray, List.set_cons_zero, List.set_cons_succ])
  refine wpGrA_take (i := 7) (.agg (eF Z)) rfl (by kernel_rfl) (by kernel_rfl) (fun _ _ _ h => h) (yG_part (by rfl) ET (.tmp 14) rfl p1 8 rfl RT (cR X Y Z T) (eF Z) (0, 0) _ S3.out.cl.2.1 (cR_8 X Y Z T) Tryz.underlying80 rfl (infoF Z)) ?_
  (try simp only [Act.put, List.getElem_toArray, List.getElem_cons_succ, List.getElem_cons_zero, List.setIfInBounds_toArray, List.set_cons_zero, List.set_cons_succ])
  refine wpGrA_take (i := 8) (.agg (eF r3)) rfl (by kernel_rfl) (by kernel_rfl) (fun _ _ _ h => h) (yG_call (by rfl) (fun w' => by go_simp) (fun w' hb => K2.out w')) ?_
  (try simp only [Act.put, List.getElem_toArray, List.getElem_cons_succ, List.getElem_cons_zero, List.setIfInBounds_toArray, List.set_cons_zero, List.set_cons_succ])
  refine wpGrA_alloc3 (i := 9) (j := 10) (k := 11) rfl rfl rfl rfl rfl rfl rfl rfl rfl zeroF rfl rfl rfl (by kernel_rfl) ?_
  intro p4_0 p4_1 p4_2 w4 hp hq hr hpq hpr hqr hz hy hx hb
  have S4 : Hid (St w w4 [(p4_0, eF 0, ET), (p4_1, eF 0, ET), (p4_2, eF 0, ET), (p2, cR 0 0 0 0, RT), (p1, cR X Y Z T, RT)] []) := hid (S3.out.alloc3 hb hp hq hr hpq hpr hqr hz hy hx)
  clear hb hp hq hr hpq hpr hqr hz hy hx S3
  (try simp only [Act.put, List.getElem_toArray, List.getElem_cons_succ, List.getElem_cons_zero, List.setIfInBounds_toArray, List.set_cons_zero, List.set_cons_succ])
  refine wpLA_here ?_
  refine wpLA_store rfl ET (.tmp 3) (.tmp 10) rfl p4_0 (eF r1) rfl rfl ET (eF 0) S4.out.cl.1 (infoF r1) ((eF_size 0).trans (eF_size r1).symm) (eF_one r1) ?_
  intro wx hb
  have S5 : Hid (St w (wx.setRow p4_0 (eF r1)) [(p4_0, eF r1, ET), (p4_1, eF 0, ET), (p4_2, eF 0, ET), (p2, cR 0 0 0 0, RT), (p1, cR X Y Z T, RT)] []) := hid ((S4.out.on hb).put0 0 rfl)
  clear hb S4
  generalize wx.setRow p4_0 (eF r1) = w5 at S5 ⊢
  (try simp only [Act.put, List.getElem_toArray, List.getElem_cons_succ, List.getElem_cons_zero, List.setIfInBounds_toArray, List.set_cons_zero, List.set_cons_succ])
  refine wpLA_store rfl ET (.tmp 4) (.tmp 13) rfl p4_1 (eF r2) rfl rfl ET (eF 0) S5.out.cl.2.1 (infoF r2) ((eF_size 0).trans (eF_size r2).symm) (eF_one r2) ?_
  intro wx hb
  have S6 : Hid (St w (wx.setRow p4_1 (eF r2)) [(p4_0, eF r1, ET), (p4_1, eF r2, ET), (p4_2, eF 0, ET), (p2, cR 0 0 0 0, RT), (p1, cR X Y Z T, RT)] []) := hid ((S5.out.on hb).put0 1 rfl)
  clear hb S5
  generalize wx.setRow p4_1 (eF r2) = w6 at S6 ⊢
  (try simp only [Act.put, List.getElem_toArray, List.getElem_cons_succ, List.getElem_cons_zero, List.setIfInBounds_toArray, List.set_cons_zero, List.set_cons_succ])
  refine wpLA_store rfl ET (.tmp 5) (.tmp 16) rfl p4_2 (eF r3) rfl rfl ET (eF 0) S6.out.cl.2.2.1 (infoF r3) ((eF_size 0).trans (eF_size r3).symm) (eF_one r3) ?_
  intro wx hb
  have S7 : Hid (St w (wx.setRow p4_2 (eF r3)) [(p4_0, eF r1, ET), (p4_1, eF r2, ET), (p4_2, eF r3, ET), (p2, cR 0 0 0 0, RT), (p1, cR X Y Z T, RT)] []) := hid ((S6.out.on hb).put0 2 rfl)
  clear hb S6
  generalize wx.setRow p4_2 (eF r3) = w7 at S7 ⊢
  (try simp only [Act.put, List.getElem_toArray, List.getElem_cons_succ, List.getElem_cons_zero, List.setIfInBounds_toArray, List.set_cons_zero, List.set_cons_succ])
  refine wpLA_end ?_
  intro w8 hb
  have S8 := hid (S7.out.on hb)
  clear hb S7
  go_upto_region 2 with fail
  refine wp_region_grA 8 (by kernel_rfl) (by decide) ?_
  refine wpGrA_take (i := 0) (.agg (eF r2)) rfl (by kernel_rfl) (by kernel_rfl) (fun _ _ _ h => h) (yG_part (by rfl) ET (.tmp 4) rfl p4_1 0 rfl ET (eF r2) (eF r2) (0, 0) _ S8.out.cl.2.1 (eF_all r2) Tryz.underlying80 rfl (infoF r2)) ?_
  (try simp only [Act.put, List.getElem_toArray, List.getElem_cons_succ, List.getElem_cons_zero, List.setIfInBounds_toArray, List.set_cons_zero, List.set_cons_succ])
  refine wpGrA_take (i := 1) (.agg (eF r1)) rfl (by kernel_rfl) (by kernel_rfl) (fun _ _ _ h => h) (yG_part (by rfl) ET (.tmp 3) rfl p4_0 0 rfl ET (eF r1) (eF r1) (0, 0) _ S8.out.cl.1 (eF_all r1) Tryz.underlying80 rfl (infoF r1)) ?_
  (try simp only [Act.put, List.getElem_toArray, List.getElem_cons_succ, List.getElem_cons_zero, List.setIfInBounds_toArray, List.set_cons_zero, List.set_cons_succ])
  refine wpGrA_take (i := 2) (.agg (eF r4)) rfl (by kernel_rfl) (by kernel_rfl) (fun _ _ _ h => h) (yG_call (by rfl) (fun w' => by go_simp) (fun w' hb => K3.out w')) ?_
  (try simp only [Act.put, List.getElem_toArray, List.getElem_cons_succ, List.getElem_cons_zero, List.setIfInBounds_toArray, List.set_cons_zero, List.set_cons_succ])
  refine wpGrA_take (i := 3) (.agg (eF r2)) rfl (by kernel_rfl) (by kernel_rfl) (fun _ _ _ h => h) (yG_part (by rfl) ET (.tmp 4) rfl p4_1 0 rfl ET (eF r2) (eF r2) (0, 0) _ S8.out.cl.2.1 (eF_all r2) Tryz.underlying80 rfl (infoF r2)) ?_
  (try simp only [Act.put, List.getElem_toArray, List.getElem_cons_succ, List.getElem_cons_zero, List.setIfInBounds_toArray, List.set_cons_zero, List.set_cons_succ])
  refine wpGrA_take (i := 4) (.agg (eF r1)) rfl (by kernel_rfl) (by kernel_rfl) (fun _ _ _ h => h) (yG_part (by rfl) ET (.tmp 3) rfl p4_0 0 rfl ET (eF r1) (eF r1) (0, 0) _ S8.out.cl.1 (eF_all r1) Tryz.underlying80 rfl (infoF r1)) ?_
  (try simp only [Act.put, List.getElem_toArray, List.getElem_cons_succ, List.getElem_cons_zero, List.setIfInBounds_toArray, List.set_cons_zero, List.set_cons_succ])
  refine wpGrA_take (i := 5) (.agg (eF r5)) rfl (by kernel_rfl) (by kernel_rfl) (fun _ _ _ h => h) (yG_call (by rfl) (fun w' => by go_simp) (fun w' hb => K4.out w')) ?_
  (try simp only [Act.put, List.getElem_toArray, List.getElem_cons_succ, List.getElem_cons_zero, List.setIfInBounds_toArray, List.set_cons_zero, List.set_cons_succ])
  refine wpGrA_alloc2 (i := 6) (j := 7) rfl rfl rfl rfl rfl rfl zeroF zeroF rfl rfl (by kernel_rfl) ?_
  intro p9_0 p9_1 w9 hp hq hne hz hy hb
  have S9 : Hid (St w w9 [(p9_0, eF 0, ET), (p9_1, eF 0, ET), (p4_0, eF r1, ET), (p4_1, eF r2, ET), (p4_2, eF r3, ET), (p2, cR 0 0 0 0, RT), (p1, cR X Y Z T, RT)] []) := hid (S8.out.alloc2 hb hp hq hne hz hy)
  clear hb hp hq hne hz hy S8
  (try simp only [Act.put, List.getElem_toArray, List.getElem_cons_succ, List.getElem_cons_zero, List.setIfInBounds_toArray, List.set_cons_zero, List.set_cons_succ])
  refine wpLA_here ?_
  refine wpLA_store rfl ET (.tmp 6) (.tmp 19) rfl p9_0 (eF r4) rfl rfl ET (eF 0) S9.out.cl.1 (infoF r4) ((eF_size 0).trans (eF_size r4).symm) (eF_one r4) ?_
  intro wx hb
  have S10 : Hid (St w (wx.setRow p9_0 (eF r4)) [(p9_0, eF r4, ET), (p9_1, eF 0, ET), (p4_0, eF r1, ET), (p4_1, eF r2, ET), (p4_2, eF r3, ET), (p2, cR 0 0 0 0, RT), (p1, cR X Y Z T, RT)] []) := hid ((S9.out.on hb).put0 0 rfl)
  clear hb S9
  generalize wx.setRow p9_0 (eF r4) = w10 at S10 ⊢
  (try simp only [Act.put, List.getElem_toArray, List.getElem_cons_succ, List.getElem_cons_zero, List.setIfInBounds_toArray, List.set_cons_zero, List.set_cons_succ])
  refine wpLA_store rfl ET (.tmp 7) (.tmp 22) rfl p9_1 (eF r5) rfl rfl ET (eF 0) S10.out.cl.2.1 (infoF r5) ((eF_size 0).trans (eF_size r5).symm) (eF_one r5) ?_
  intro wx hb
  have S11 : Hid (St w (wx.setRow p9_1 (eF r5)) [(p9_0, eF r4, ET), (p9_1, eF r5, ET), (p4_0, eF r1, ET), (p4_1, eF r2, ET), (p4_2, eF r3, ET), (p2, cR 0 0 0 0, RT), (p1, cR X Y Z T, RT)] []) := hid ((S10.out.on hb).put0 1 rfl)
  clear hb S10
  generalize wx.setRow p9_1 (eF r5) = w11 at S11 ⊢
  (try simp only [Act.put, List.getElem_toArray, List.getElem_cons_succ, List.getElem_cons_zero, List.setIfInBounds_toArray, List.set_cons_zero, List.set_cons_succ])
  refine wpLA_end ?_
  intro w12 hb
  have S12 := hid (S11.out.on hb)
  clear hb S11
  go_upto_region 3 with fail
  refine wp_region_grA 16 (by kernel_rfl) (by decide) ?_
  refine wpGrA_take (i := 0) (.pointer (some ⟨p1, 0, none⟩)) rfl (by kernel_rfl) (by kernel_rfl) (fun _ _ _ h => h) (yG_val _ (by rfl) (fun w' _ => by (go_simp; try rfl))) ?_
  (try simp only [Act.put, List.getElem_toArray, List.getElem_cons_succ, List.getElem_cons_zero, List.setIfInBounds_toArray, List.set_cons_zero, List.set_cons_succ])
  refine wpGrA_take (i := 1) (.agg (eF X)) rfl (by kernel_rfl) (by kernel_rfl) (fun _ _ _ h => h) (yG_part (by rfl) ET (.tmp 23) rfl p1 0 rfl RT (cR X Y Z T) (eF X) (0, 0) _ S12.out.cl.2.2.2.2.2.2.1 (cR_0 X Y Z T) Tryz.underlying80 rfl (infoF X)) ?_
  (try simp only [Act.put, List.getElem_toArray, List.getElem_cons_succ, List.getElem_cons_zero, List.setIfInBounds_toArray, List.set_cons_zero, List.set_cons_succ])
  refine wpGrA_take (i := 2) (.pointer (some ⟨p1, 4, none⟩)) rfl (by kernel_rfl) (by kernel_rfl) (fun _ _ _ h => h) (yG_val _ (by rfl) (fun w' _ => by (go_simp; try rfl))) ?_
  (try simp only [Act.put, List.getElem_toArray, List.getElem_cons_succ, List.getElem_cons_zero, List.setIfInBounds_toArray, List.set_cons_zero, List.set_cons_succ])
  refine wpGrA_take (i := 3) (.agg (eF Y)) rfl (by kernel_rfl) (by kernel_rfl) (fun _ _ _ h => h) (yG_part (by rfl) ET (.tmp 25) rfl p1 4 rfl RT (cR X Y Z T) (eF Y) (0, 0) _ S12.out.cl.2.2.2.2.2.2.1 (cR_4 X Y Z T) Tryz.underlying80 rfl (infoF Y)) ?_
  (try simp only [Act.put, List.getElem_toArray, List.getElem_cons_succ, List.getElem_cons_zero, List.setIfInBounds_toArray, List.set_cons_zero, List.set_cons_succ])
  refine wpGrA_take (i := 4) (.agg (eF r6)) rfl (by kernel_rfl) (by kernel_rfl) (fun _ _ _ h => h) (yG_call (by rfl) (fun w' => by go_simp) (fun w' hb => K5.out w')) ?_
  (try simp only [Act.put, List.getElem_toArray, List.getElem_cons_succ, List.getElem_cons_zero, List.setIfInBounds_toArray, List.set_cons_zero, List.set_cons_succ])
  refine wpGrA_take (i := 5) (.agg (eF r7)) rfl (by kernel_rfl) (by kernel_rfl) (fun _ _ _ h => h) (yG_call (by rfl) (fun w' => by go_simp) (fun w' hb => K6.out w')) ?_
  (try simp only [Act.put, List.getElem_toArray, List.getElem_cons_succ, List.getElem_cons_zero, List.setIfInBounds_toArray, List.set_cons_zero, List.set_cons_succ])
  refine wpGrA_take (i := 6) (.agg (eF r4)) rfl (by kernel_rfl) (by kernel_rfl) (fun _ _ _ h => h) (yG_part (by rfl) ET (.tmp 6) rfl p9_0 0 rfl ET (eF r4) (eF r4) (0, 0) _ S12.out.cl.1 (eF_all r4) Tryz.underlying80 rfl (infoF r4)) ?_
  (try simp only [Act.put, List.getElem_toArray, List.getElem_cons_succ, List.getElem_cons_zero, List.setIfInBounds_toArray, List.set_cons_zero, List.set_cons_succ])
  refine wpGrA_take (i := 7) (.agg (eF r8)) rfl (by kernel_rfl) (by kernel_rfl) (fun _ _ _ h => h) (yG_call (by rfl) (fun w' => by go_simp) (fun w' hb => K7.out w')) ?_
  (try simp only [Act.put, List.getElem_toArray, List.getElem_cons_succ, List.getElem_cons_zero, List.setIfInBounds_toArray, List.set_cons_zero, List.set_cons_succ])
  refine wpGrA_take (i := 8) (.agg (eF r5)) rfl (by kernel_rfl) (by kernel_rfl) (fun _ _ _ h => h) (yG_part (by rfl) ET (.tmp 7) rfl p9_1 0 rfl ET (eF r5) (eF r5) (0, 0) _ S12.out.cl.2.1 (eF_all r5) Tryz.underlying80 rfl (infoF r5)) ?_
  (try simp only [Act.put, List.getElem_toArray, List.getElem_cons_succ, List.getElem_cons_zero, List.setIfInBounds_toArray, List.set_cons_zero, List.set_cons_succ])
  refine wpGrA_take (i := 9) (.agg (eF r4)) rfl (by kernel_rfl) (by kernel_rfl) (fun _ _ _ h => h) (yG_part (by rfl) ET (.tmp 6) rfl p9_0 0 rfl ET (eF r4) (eF r4) (0, 0) _ S12.out.cl.1 (eF_all r4) Tryz.underlying80 rfl (infoF r4)) ?_
  (try simp only [Act.put, List.getElem_toArray, List.getElem_cons_succ, List.getElem_cons_zero, List.setIfInBounds_toArray, List.set_cons_zero, List.set_cons_succ])
  refine wpGrA_take (i := 10) (.agg (eF r3)) rfl (by kernel_rfl) (by kernel_rfl) (fun _ _ _ h => h) (yG_part (by rfl) ET (.tmp 5) rfl p4_2 0 rfl ET (eF r3) (eF r3) (0, 0) _ S12.out.cl.2.2.2.2.1 (eF_all r3) Tryz.underlying80 rfl (infoF r3)) ?_
  (try simp only [Act.put, List.getElem_toArray, List.getElem_cons_succ, List.getElem_cons_zero, List.setIfInBounds_toArray, List.set_cons_zero, List.set_cons_succ])
  refine wpGrA_take (i := 11) (.agg (eF r3)) rfl (by kernel_rfl) (by kernel_rfl) (fun _ _ _ h => h) (yG_part (by rfl) ET (.tmp 5) rfl p4_2 0 rfl ET (eF r3) (eF r3) (0, 0) _ S12.out.cl.2.2.2.2.1 (eF_all r3) Tryz.underlying80 rfl (infoF r3)) ?_
  (try simp only [Act.put, List.getElem_toArray, List.getElem_cons_succ, List.getElem_cons_zero, List.setIfInBounds_toArray, List.set_cons_zero, List.set_cons_succ])
  refine wpGrA_take (i := 12) (.agg (eF r9)) rfl (by kernel_rfl) (by kernel_rfl) (fun _ _ _ h => h) (yG_call (by rfl) (fun w' => by go_simp) (fun w' hb => K8.out w')) ?_
  (try simp only [Act.put, List.getElem_toArray, List.getElem_cons_succ, List.getElem_cons_zero, List.setIfInBounds_toArray, List.set_cons_zero, List.set_cons_succ])
  refine wpGrA_take (i := 13) (.agg (eF r5)) rfl (by kernel_rfl) (by kernel_rfl) (fun _ _ _ h => h) (yG_part (by rfl) ET (.tmp 7) rfl p9_1 0 rfl ET (eF r5) (eF r5) (0, 0) _ S12.out.cl.2.1 (eF_all r5) Tryz.underlying80 rfl (infoF r5)) ?_
  (try simp only [Act.put, List.getElem_toArray, List.getElem_cons_succ, List.getElem_cons_zero, List.setIfInBounds_toArray, List.set_cons_zero, List.set_cons_succ])
  refine wpGrA_take (i := 14) (.agg (eF r10)) rfl (by kernel_rfl) (by kernel_rfl) (fun _ _ _ h => h) (yG_call (by rfl) (fun w' => by go_simp) (fun w' hb => K9.out w')) ?_
  (try simp only [Act.put, List.getElem_toArray, List.getElem_cons_succ, List.getElem_cons_zero, List.setIfInBounds_toArray, List.set_cons_zero, List.set_cons_succ])
  refine wpGrA_take (i := 15) (.agg (cR r11 r12 r13 r14)) rfl (by kernel_rfl) (by kernel_rfl) (fun _ _ _ h => h) (yG_call (by rfl) (fun w' => by go_simp) (fun w' hb => K10.out w')) ?_
  (try simp only [Act.put, List.getElem_toArray, List.getElem_cons_succ, List.getElem_cons_zero, List.setIfInBounds_toArray, List.set_cons_zero, List.set_cons_succ])
  refine wpGrA_end (by kernel_rfl) ?_
  intro w13 hb
  have S13 := hid (S12.out.on hb)
  clear hb S12
  refine wpLA_here ?_
  refine wpLA_store rfl RT (.tmp 2) (.tmp 38) rfl p2 (cR r11 r12 r13 r14) rfl rfl RT (cR 0 0 0 0) S13.out.cl.2.2.2.2.2.1 (infoR r11 r12 r13 r14) ((cR_size 0 0 0 0).trans (cR_size r11 r12 r13 r14).symm) (cR_one r11 r12 r13 r14) ?_
  intro wx hb
  have S14 : Hid (St w (wx.setRow p2 (cR r11 r12 r13 r14)) [(p9_0, eF r4, ET), (p9_1, eF r5, ET), (p4_0, eF r1, ET), (p4_1, eF r2, ET), (p4_2, eF r3, ET), (p2, cR r11 r12 r13 r14, RT), (p1, cR X Y Z T, RT)] []) := hid ((S13.out.on hb).put0 5 rfl)
  clear hb S13
  generalize wx.setRow p2 (cR r11 r12 r13 r14) = w14 at S14 ⊢
  (try simp only [Act.put, List.getElem_toArray, List.getElem_cons_succ, List.getElem_cons_zero, List.setIfInBounds_toArray, List.set_cons_zero, List.set_cons_succ])
  refine wpLA_end ?_
  intro w15 hb
  have S15 := hid (S14.out.on hb)
  clear hb S14
  go_wp2_with fail
  exact bodyPost_ret (v := .agg (cR r11 r12 r13 r14)) (results_cell_row rfl _ _ p2 RT _ (0, 0) _ rfl S15.out.cl.2.2.2.2.2.1 Tryz.underlying107 rfl (infoR r11 r12 r13 r14)) rfl ⟨rfl, S15.out.below⟩
theorem twiceC {X Y Z T A B C S D q1 q2 q3 q4 : FF} (hA : A = X * X) (hB : B = Y * Y) (hC : C = Z * Z) (hS : S = B + A) (hD : D = B - A) (h1 : q1 = ((X + Y) * (X + Y) - S) * (C + C - D)) (h2 : q2 = S * D) (h3 : q3 = D * (C + C - D)) (h4 : q4 = ((X + Y) * (X + Y) - S) * S) : Hid (∀ W : World, Calls Tryz.prog 105 #[.agg (cR X Y Z T)] W fun e w' => e = .returned (.agg (cR q1 q2 q3 q4)) ∧ Below W.heap.size W w') := hid fun W => twiceC' hA hB hC hS hD h1 h2 h3 h4 W
end
section
open Go Go.RowKit
set_option linter.unusedVariables false
set_option linter.unusedSimpArgs false
theorem rootE {a R : FF} {t : Bool} (hR : R.val = rootN a.val) (hT : t = decide (rt2 a.val * rt2 a.val % pp = a.val)) : Hid (∀ W : World, Calls Tryz.prog 113 #[.agg (eF a)] W fun e w' => e = .returned (.tuple #[.agg (eF R), .bool t]) ∧ Below W.heap.size W w') := hid fun W => by
  unfold eF
  rw [hR, hT]
  exact Root_e a.val W a.isLt
set_option maxHeartbeats 1000000 in
theorem addC' {x a x2 a2 y t y2 l m p A B C D q1 q2 q3 r s : FF} (hy : y = a + 1) (ht : t = x * y) (hy2 : y2 = a2 + 1) (hl : l = y2 - x2) (hm : m = y2 + x2) (hp : p = (dd + dd) * x2 * y2) (hA : A = (y - x) * l) (hB : B = (y + x) * m) (hD : D = 1 + 1) (hC : C = t * p) (h1 : q1 = (B - A) * (D - C)) (h2 : q2 = (B + A) * (D + C)) (h3 : q3 = (D + C) * (D - C)) (hr : r = q1 * FI q3) (hs : s = q2 * FI q3 - 1) (w : World) : Calls Tryz.prog 55 #[.agg (cP x a), .agg (cP x2 a2)] w fun e w' => e = .returned (.agg (cP r s)) ∧ Below w.heap.size w w' := by
  obtain ⟨r1, hr1⟩ : ∃ v : FF, v = a + 1 := ⟨_, rfl⟩
  obtain ⟨r2, hr2⟩ : ∃ v : FF, v = x * r1 := ⟨_, rfl⟩
  have K0 := ratiosC (x := x) (a := a) hr1 hr2
  obtain ⟨r3, hr3⟩ : ∃ v : FF, v = a2 + 1 := ⟨_, rfl⟩
  obtain ⟨r4, hr4⟩ : ∃ v : FF, v = r3 - x2 := ⟨_, rfl⟩
  obtain ⟨r5, hr5⟩ : ∃ v : FF, v = r3 + x2 := ⟨_, rfl⟩
  obtain ⟨r6, hr6⟩ : ∃ v : FF, v = (dd + dd) * x2 * r3 := ⟨_, rfl⟩
  have K1 := addendC (x := x2) (a := a2) hr3 hr4 hr5 hr6
  obtain ⟨r7, hr7⟩ : ∃ v : FF, v = (r1 - x) * r4 := ⟨_, rfl⟩
  obtain ⟨r8, hr8⟩ : ∃ v : FF, v = (r1 + x) * r5 := ⟨_, rfl⟩
  obtain ⟨r9, hr9⟩ : ∃ v : FF, v = 1 + 1 := ⟨_, rfl⟩
  obtain ⟨r10, hr10⟩ : ∃ v : FF, v = r2 * r6 := ⟨_, rfl⟩
  obtain ⟨r11, hr11⟩ : ∃ v : FF, v = (r8 - r7) * (r9 - r10) := ⟨_, rfl⟩
  obtain ⟨r12, hr12⟩ : ∃ v : FF, v = (r8 + r7) * (r9 + r10) := ⟨_, rfl⟩
  obtain ⟨r13, hr13⟩ : ∃ v : FF, v = (r9 + r10) * (r9 - r10) := ⟨_, rfl⟩
  obtain ⟨r14, hr14⟩ : ∃ v : FF, v = (r8 - r7) * (r8 + r7) := ⟨_, rfl⟩
  have K2 := andC (X := x) (Y := r1) (Z := 1) (T := r2) (l := r4) (m := r5) (p := r6) hr7 hr8 hr9 hr10 hr11 hr12 hr13 hr14
  obtain ⟨r15, hr15⟩ : ∃ v : FF, v = r11 * FI r13 := ⟨_, rfl⟩
  obtain ⟨r16, hr16⟩ : ∃ v : FF, v = r12 * FI r13 - 1 := ⟨_, rfl⟩
  have K3 := pointC (x := r11) (y := r12) (z := r13) (t := r14) hr15 hr16
  have HE : cP r s = cP r15 r16 := by
    subst hy ht hy2 hl hm hp hA hB hD hC h1 h2 h3 hr hs
    subst hr16 hr15 hr14 hr13 hr12 hr11 hr10 hr9 hr8 hr7 hr6 hr5 hr4 hr3 hr2 hr1
    rfl
  rw [HE]
  clear HE hy ht hy2 hl hm hp hA hB hD hC h1 h2 h3 hr hs hr1 hr2 hr3 hr4 hr5 hr6 hr7 hr8 hr9 hr10 hr11 hr12 hr13 hr14 hr15 hr16
  go_enter Tryz.func55, Tryz.ntmps55
  have S0 : Hid (St w w [] []) := hid (St.start w)
  go_upto_region 0 with fail
  refine wpLA_start ?_
  refine wpLA_box (cP x a) (by rfl) rfl rfl ?_
  intro p1 w1 hp hz hb
  have S1 : Hid (St w w1 [(p1, cP x a, PT)] []) := hid (S0.out.alloc hb hp hz)
  clear hp hz hb S0
  (try simp only [Act.put, List.getElem_toArray, List.getElem_cons_succ, List.getElem_cons_zero, List.setIfInBounds_toArray, List.set_cons_zero, List.set_cons_succ])
  refine wpLA_box (cP x2 a2) (by rfl) rfl rfl ?_
  intro p2 w2 hp hz hb
  have S2 : Hid (St w w2 [(p2, cP x2 a2, PT), (p1, cP x a, PT)] []) := hid (S1.out.alloc hb hp hz)
  clear hp hz hb S1
  (try simp only [Act.put, List.getElem_toArray, List.getElem_cons_succ, List.getElem_cons_zero, List.setIfInBounds_toArray, List.set_cons_zero, List.set_cons_succ])
  refine wpLA_alloc (by rfl) rfl zeroPc ?_
  intro p3 w3 hp hz hb
  have S3 : Hid (St w w3 [(p3, cP 0 0, PT), (p2, cP x2 a2, PT), (p1, cP x a, PT)] []) := hid (S2.out.alloc hb hp hz)
  clear hp hz hb S2
  (try simp only [Act.put, List.getElem_toArray, List.getElem_cons_succ, List.getElem_cons_zero, List.setIfInBounds_toArray, List.set_cons_zero, List.set_cons_succ])
  refine wpLA_end ?_
  intro w4 hb
  have S4 := hid (S3.out.on hb)
  clear hb S3
  go_upto_region 1 with fail
  refine wp_region_grA 6 (by kernel_rfl) (by decide) ?_
  refine wpGrA_take (i := 0) (.agg (cP x a)) rfl (by kernel_rfl) (by kernel_rfl) (fun _ _ _ h => h) (yG_part (by rfl) PT (.tmp 2) rfl p1 0 rfl PT (cP x a) (cP x a) (0, 0) _ S4.out.cl.2.2.1 (cP_all x a) Tryz.underlying82 rfl (infoPc x a)) ?_
  (try simp only [Act.put, List.getElem_toArray, List.getElem_cons_succ, List.getElem_cons_zero, List.setIfInBounds_toArray, List.set_cons_zero, List.set_cons_succ])
  refine wpGrA_take (i := 1) (.agg (cR x r1 1 r2)) rfl (by kernel_rfl) (by kernel_rfl) (fun _ _ _ h => h) (yG_call (by rfl) (fun w' => by go_simp) (fun w' hb => K0.out w')) ?_
  (try simp only [Act.put, List.getElem_toArray, List.getElem_cons_succ, List.getElem_cons_zero, List.setIfInBounds_toArray, List.set_cons_zero, List.set_cons_succ])
  refine wpGrA_take (i := 2) (.agg (cP x2 a2)) rfl (by kernel_rfl) (by kernel_rfl) (fun _ _ _ h => h) (yG_part (by rfl) PT (.tmp 3) rfl p2 0 rfl PT (cP x2 a2) (cP x2 a2) (0, 0) _ S4.out.cl.2.1 (cP_all x2 a2) Tryz.underlying82 rfl (infoPc x2 a2)) ?_
  (try simp only [Act.put, List.getElem_toArray, List.getElem_cons_succ, List.getElem_cons_zero, List.setIfInBounds_toArray, List.set_cons_zero, List.set_cons_succ])
  refine wpGrA_take (i := 3) (.agg (cA r4 r5 r6)) rfl (by kernel_rfl) (by kernel_rfl) (fun _ _ _ h => h) (yG_call (by rfl) (fun w' => by go_simp) (fun w' hb => K1.out w')) ?_
  (try simp only [Act.put, List.getElem_toArray, List.getElem_cons_succ, List.getElem_cons_zero, List.setIfInBounds_toArray, List.set_cons_zero, List.set_cons_succ])
  refine wpGrA_take (i := 4) (.agg (cR r11 r12 r13 r14)) rfl (by kernel_rfl) (by kernel_rfl) (fun _ _ _ h => h) (yG_call (by rfl) (fun w' => by go_simp) (fun w' hb => K2.out w')) ?_
  (try simp only [Act.put, List.getElem_toArray, List.getElem_cons_succ, List.getElem_cons_zero, List.setIfInBounds_toArray, List.set_cons_zero, List.set_cons_succ])
  refine wpGrA_take (i := 5) (.agg (cP r15 r16)) rfl (by kernel_rfl) (by kernel_rfl) (fun _ _ _ h => h) (yG_call (by rfl) (fun w' => by go_simp) (fun w' hb => K3.out w')) ?_
  (try simp only [Act.put, List.getElem_toArray, List.getElem_cons_succ, List.getElem_cons_zero, List.setIfInBounds_toArray, List.set_cons_zero, List.set_cons_succ])
  refine wpGrA_end (by kernel_rfl) ?_
  intro w5 hb
  have S5 := hid (S4.out.on hb)
  clear hb S4
  refine wpLA_here ?_
  refine wpLA_store rfl PT (.tmp 4) (.tmp 10) rfl p3 (cP r15 r16) rfl rfl PT (cP 0 0) S5.out.cl.1 (infoPc r15 r16) ((cP_size 0 0).trans (cP_size r15 r16).symm) (cP_one r15 r16) ?_
  intro wx hb
  have S6 : Hid (St w (wx.setRow p3 (cP r15 r16)) [(p3, cP r15 r16, PT), (p2, cP x2 a2, PT), (p1, cP x a, PT)] []) := hid ((S5.out.on hb).put0 0 rfl)
  clear hb S5
  generalize wx.setRow p3 (cP r15 r16) = w6 at S6 ⊢
  (try simp only [Act.put, List.getElem_toArray, List.getElem_cons_succ, List.getElem_cons_zero, List.setIfInBounds_toArray, List.set_cons_zero, List.set_cons_succ])
  refine wpLA_end ?_
  intro w7 hb
  have S7 := hid (S6.out.on hb)
  clear hb S6
  go_wp2_with fail
  exact bodyPost_ret (v := .agg (cP r15 r16)) (results_cell_row rfl _ _ p3 PT _ (0, 0) _ rfl S7.out.cl.1 Tryz.underlying82 rfl (infoPc r15 r16)) rfl ⟨rfl, S7.out.below⟩
theorem addC {x a x2 a2 y t y2 l m p A B C D q1 q2 q3 r s : FF} (hy : y = a + 1) (ht : t = x * y) (hy2 : y2 = a2 + 1) (hl : l = y2 - x2) (hm : m = y2 + x2) (hp : p = (dd + dd) * x2 * y2) (hA : A = (y - x) * l) (hB : B = (y + x) * m) (hD : D = 1 + 1) (hC : C = t * p) (h1 : q1 = (B - A) * (D - C)) (h2 : q2 = (B + A) * (D + C)) (h3 : q3 = (D + C) * (D - C)) (hr : r = q1 * FI q3) (hs : s = q2 * FI q3 - 1) : Hid (∀ W : World, Calls Tryz.prog 55 #[.agg (cP x a), .agg (cP x2 a2)] W fun e w' => e = .returned (.agg (cP r s)) ∧ Below W.heap.size W w') := hid fun W => addC' hy ht hy2 hl hm hp hA hB hD hC h1 h2 h3 hr hs W
set_option maxHeartbeats 1000000 in
theorem sameT' {x a x2 a2 : FF} {t : Bool} (hX : true = decide (x = x2)) (hA : t = decide (a = a2)) (w : World) : Calls Tryz.prog 54 #[.agg (cP x a), .agg (cP x2 a2)] w fun e w' => e = .returned (.bool t) ∧ Below w.heap.size w w' := by
  have K0 := sameE (t := true) hX
  have K1 := sameE hA
  clear hX hA 
  go_enter Tryz.func54, Tryz.ntmps54
  have S0 : Hid (St w w [] []) := hid (St.start w)
  go_upto_region 0 with fail
  refine wpLA_start ?_
  refine wpLA_box (cP x a) (by rfl) rfl rfl ?_
  intro p1 w1 hp hz hb
  have S1 : Hid (St w w1 [(p1, cP x a, PT)] []) := hid (S0.out.alloc hb hp hz)
  clear hp hz hb S0
  (try simp only [Act.put, List.getElem_toArray, List.getElem_cons_succ, List.getElem_cons_zero, List.setIfInBounds_toArray, List.set_cons_zero, List.set_cons_succ])
  refine wpLA_box (cP x2 a2) (by rfl) rfl rfl ?_
  intro p2 w2 hp hz hb
  have S2 : Hid (St w w2 [(p2, cP x2 a2, PT), (p1, cP x a, PT)] []) := hid (S1.out.alloc hb hp hz)
  clear hp hz hb S1
  (try simp only [Act.put, List.getElem_toArray, List.getElem_cons_succ, List.getElem_cons_zero, List.setIfInBounds_toArray, List.set_cons_zero, List.set_cons_succ])
  refine wpLA_take (.bool false) (yG_val _ (by rfl) (fun w' _ => by (go_simp; try rfl))) ?_
  (try simp only [Act.put, List.getElem_toArray, List.getElem_cons_succ, List.getElem_cons_zero, List.setIfInBounds_toArray, List.set_cons_zero, List.set_cons_succ])
  refine wpLA_end ?_
  intro w3 hb
  have S3 := hid (S2.out.on hb)
  clear hb S2
  go_upto_region 1 with fail
  refine wpLA_start ?_
  refine wpLA_take (.pointer (some ⟨p1, 0, none⟩)) (yG_val _ (by rfl) (fun w' _ => by (go_simp; try rfl))) ?_
  (try simp only [Act.put, List.getElem_toArray, List.getElem_cons_succ, List.getElem_cons_zero, List.setIfInBounds_toArray, List.set_cons_zero, List.set_cons_succ])
  refine wpLA_take (.agg (eF x)) (yG_part (by rfl) ET (.tmp 5) rfl p1 0 rfl PT (cP x a) (eF x) (0, 0) _ S3.out.cl.2.1 (cP_0 x a) Tryz.underlying80 rfl (infoF x)) ?_
  (try simp only [Act.put, List.getElem_toArray, List.getElem_cons_succ, List.getElem_cons_zero, List.setIfInBounds_toArray, List.set_cons_zero, List.set_cons_succ])
  refine wpLA_take (.pointer (some ⟨p2, 0, none⟩)) (yG_val _ (by rfl) (fun w' _ => by (go_simp; try rfl))) ?_
  (try simp only [Act.put, List.getElem_toArray, List.getElem_cons_succ, List.getElem_cons_zero, List.setIfInBounds_toArray, List.set_cons_zero, List.set_cons_succ])
  refine wpLA_take (.agg (eF x2)) (yG_part (by rfl) ET (.tmp 7) rfl p2 0 rfl PT (cP x2 a2) (eF x2) (0, 0) _ S3.out.cl.1 (cP_0 x2 a2) Tryz.underlying80 rfl (infoF x2)) ?_
  (try simp only [Act.put, List.getElem_toArray, List.getElem_cons_succ, List.getElem_cons_zero, List.setIfInBounds_toArray, List.set_cons_zero, List.set_cons_succ])
  refine wpLA_take (.bool true) (yG_call (by rfl) (fun w' => by go_simp) (fun w' hb => K0.out w')) ?_
  (try simp only [Act.put, List.getElem_toArray, List.getElem_cons_succ, List.getElem_cons_zero, List.setIfInBounds_toArray, List.set_cons_zero, List.set_cons_succ])
  refine wpLA_take (.bool true) (yG_val _ (by rfl) (fun w' _ => by (go_simp; try rfl))) ?_
  (try simp only [Act.put, List.getElem_toArray, List.getElem_cons_succ, List.getElem_cons_zero, List.setIfInBounds_toArray, List.set_cons_zero, List.set_cons_succ])
  refine wpLA_take (.pointer (some ⟨p1, 4, none⟩)) (yG_val _ (by rfl) (fun w' _ => by (go_simp; try rfl))) ?_
  (try simp only [Act.put, List.getElem_toArray, List.getElem_cons_succ, List.getElem_cons_zero, List.setIfInBounds_toArray, List.set_cons_zero, List.set_cons_succ])
  refine wpLA_take (.agg (eF a)) (yG_part (by rfl) ET (.tmp 11) rfl p1 4 rfl PT (cP x a) (eF a) (0, 0) _ S3.out.cl.2.1 (cP_4 x a) Tryz.underlying80 rfl (infoF a)) ?_
  (try simp only [Act.put, List.getElem_toArray, List.getElem_cons_succ, List.getElem_cons_zero, List.setIfInBounds_toArray, List.set_cons_zero, List.set_cons_succ])
  refine wpLA_take (.pointer (some ⟨p2, 4, none⟩)) (yG_val _ (by rfl) (fun w' _ => by (go_simp; try rfl))) ?_
  (try simp only [Act.put, List.getElem_toArray, List.getElem_cons_succ, List.getElem_cons_zero, List.setIfInBounds_toArray, List.set_cons_zero, List.set_cons_succ])
  refine wpLA_take (.agg (eF a2)) (yG_part (by rfl) ET (.tmp 13) rfl p2 4 rfl PT (cP x2 a2) (eF a2) (0, 0) _ S3.out.cl.1 (cP_4 x2 a2) Tryz.underlying80 rfl (infoF a2)) ?_
  (try simp only [Act.put, List.getElem_toArray, List.getElem_cons_succ, List.getElem_cons_zero, List.setIfInBounds_toArray, List.set_cons_zero, List.set_cons_succ])
  refine wpLA_take (.bool t) (yG_call (by rfl) (fun w' => by go_simp) (fun w' hb => K1.out w')) ?_
  (try simp only [Act.put, List.getElem_toArray, List.getElem_cons_succ, List.getElem_cons_zero, List.setIfInBounds_toArray, List.set_cons_zero, List.set_cons_succ])
  refine wpLA_take (.bool t) (yG_val _ (by rfl) (fun w' _ => by (go_simp; try rfl))) ?_
  (try simp only [Act.put, List.getElem_toArray, List.getElem_cons_succ, List.getElem_cons_zero, List.setIfInBounds_toArray, List.set_cons_zero, List.set_cons_succ])
  refine wpLA_take (.bool t) (yG_val _ (by rfl) (fun w' _ => by (go_simp; try rfl))) ?_
  (try simp only [Act.put, List.getElem_toArray, List.getElem_cons_succ, List.getElem_cons_zero, List.setIfInBounds_toArray, List.set_cons_zero, List.set_cons_succ])
  refine wpLA_end ?_
  intro w4 hb
  have S4 := hid (S3.out.on hb)
  clear hb S3
  go_wp2_with fail
  go_ret
  exact ⟨rfl, S4.out.below⟩
theorem sameT {x a x2 a2 : FF} {t : Bool} (hX : true = decide (x = x2)) (hA : t = decide (a = a2)) : Hid (∀ W : World, Calls Tryz.prog 54 #[.agg (cP x a), .agg (cP x2 a2)] W fun e w' => e = .returned (.bool t) ∧ Below W.heap.size W w') := hid fun W => sameT' hX hA W
set_option maxHeartbeats 1000000 in
theorem sameFc' {x a x2 a2 : FF} (hX : false = decide (x = x2)) (w : World) : Calls Tryz.prog 54 #[.agg (cP x a), .agg (cP x2 a2)] w fun e w' => e = .returned (.bool false) ∧ Below w.heap.size w w' := by
  have K0 := sameE (t := false) hX
  clear hX 
  go_enter Tryz.func54, Tryz.ntmps54
  have S0 : Hid (St w w [] []) := hid (St.start w)
  go_upto_region 0 with fail
  refine wpLA_start ?_
  refine wpLA_box (cP x a) (by rfl) rfl rfl ?_
  intro p1 w1 hp hz hb
  have S1 : Hid (St w w1 [(p1, cP x a, PT)] []) := hid (S0.out.alloc hb hp hz)
  clear hp hz hb S0
  (try simp only [Act.put, List.getElem_toArray, List.getElem_cons_succ, List.getElem_cons_zero, List.setIfInBounds_toArray, List.set_cons_zero, List.set_cons_succ])
  refine wpLA_box (cP x2 a2) (by rfl) rfl rfl ?_
  intro p2 w2 hp hz hb
  have S2 : Hid (St w w2 [(p2, cP x2 a2, PT), (p1, cP x a, PT)] []) := hid (S1.out.alloc hb hp hz)
  clear hp hz hb S1
  (try simp only [Act.put, List.getElem_toArray, List.getElem_cons_succ, List.getElem_cons_zero, List.setIfInBounds_toArray, List.set_cons_zero, List.set_cons_succ])
  refine wpLA_take (.bool false) (yG_val _ (by rfl) (fun w' _ => by (go_simp; try rfl))) ?_
  (try simp only [Act.put, List.getElem_toArray, List.getElem_cons_succ, List.getElem_cons_zero, List.setIfInBounds_toArray, List.set_cons_zero, List.set_cons_succ])
  refine wpLA_end ?_
  intro w3 hb
  have S3 := hid (S2.out.on hb)
  clear hb S2
  go_upto_region 1 with fail
  refine wpLA_start ?_
  refine wpLA_take (.pointer (some ⟨p1, 0, none⟩)) (yG_val _ (by rfl) (fun w' _ => by (go_simp; try rfl))) ?_
  (try simp only [Act.put, List.getElem_toArray, List.getElem_cons_succ, List.getElem_cons_zero, List.setIfInBounds_toArray, List.set_cons_zero, List.set_cons_succ])
  refine wpLA_take (.agg (eF x)) (yG_part (by rfl) ET (.tmp 5) rfl p1 0 rfl PT (cP x a) (eF x) (0, 0) _ S3.out.cl.2.1 (cP_0 x a) Tryz.underlying80 rfl (infoF x)) ?_
  (try simp only [Act.put, List.getElem_toArray, List.getElem_cons_succ, List.getElem_cons_zero, List.setIfInBounds_toArray, List.set_cons_zero, List.set_cons_succ])
  refine wpLA_take (.pointer (some ⟨p2, 0, none⟩)) (yG_val _ (by rfl) (fun w' _ => by (go_simp; try rfl))) ?_
  (try simp only [Act.put, List.getElem_toArray, List.getElem_cons_succ, List.getElem_cons_zero, List.setIfInBounds_toArray, List.set_cons_zero, List.set_cons_succ])
  refine wpLA_take (.agg (eF x2)) (yG_part (by rfl) ET (.tmp 7) rfl p2 0 rfl PT (cP x2 a2) (eF x2) (0, 0) _ S3.out.cl.1 (cP_0 x2 a2) Tryz.underlying80 rfl (infoF x2)) ?_
  (try simp only [Act.put, List.getElem_toArray, List.getElem_cons_succ, List.getElem_cons_zero, List.setIfInBounds_toArray, List.set_cons_zero, List.set_cons_succ])
  refine wpLA_take (.bool false) (yG_call (by rfl) (fun w' => by go_simp) (fun w' hb => K0.out w')) ?_
  (try simp only [Act.put, List.getElem_toArray, List.getElem_cons_succ, List.getElem_cons_zero, List.setIfInBounds_toArray, List.set_cons_zero, List.set_cons_succ])
  refine wpLA_take (.bool false) (yG_val _ (by rfl) (fun w' _ => by (go_simp; try rfl))) ?_
  (try simp only [Act.put, List.getElem_toArray, List.getElem_cons_succ, List.getElem_cons_zero, List.setIfInBounds_toArray, List.set_cons_zero, List.set_cons_succ])
  refine wpLA_take undef (yG_skip (by rfl)) ?_
  (try simp only [Act.put, List.getElem_toArray, List.getElem_cons_succ, List.getElem_cons_zero, List.setIfInBounds_toArray, List.set_cons_zero, List.set_cons_succ])
  refine wpLA_take undef (yG_skip (by rfl)) ?_
  (try simp only [Act.put, List.getElem_toArray, List.getElem_cons_succ, List.getElem_cons_zero, List.setIfInBounds_toArray, List.set_cons_zero, List.set_cons_succ])
  refine wpLA_take undef (yG_skip (by rfl)) ?_
  (try simp only [Act.put, List.getElem_toArray, List.getElem_cons_succ, List.getElem_cons_zero, List.setIfInBounds_toArray, List.set_cons_zero, List.set_cons_succ])
  refine wpLA_take undef (yG_skip (by rfl)) ?_
  (try simp only [Act.put, List.getElem_toArray, List.getElem_cons_succ, List.getElem_cons_zero, List.setIfInBounds_toArray, List.set_cons_zero, List.set_cons_succ])
  refine wpLA_take undef (yG_skip (by rfl)) ?_
  (try simp only [Act.put, List.getElem_toArray, List.getElem_cons_succ, List.getElem_cons_zero, List.setIfInBounds_toArray, List.set_cons_zero, List.set_cons_succ])
  refine wpLA_take (.bool false) (yG_val _ (by rfl) (fun w' _ => by (go_simp; try rfl))) ?_
  (try simp only [Act.put, List.getElem_toArray, List.getElem_cons_succ, List.getElem_cons_zero, List.setIfInBounds_toArray, List.set_cons_zero, List.set_cons_succ])
  refine wpLA_take (.bool false) (yG_val _ (by rfl) (fun w' _ => by (go_simp; try rfl))) ?_
  (try simp only [Act.put, List.getElem_toArray, List.getElem_cons_succ, List.getElem_cons_zero, List.setIfInBounds_toArray, List.set_cons_zero, List.set_cons_succ])
  refine wpLA_end ?_
  intro w4 hb
  have S4 := hid (S3.out.on hb)
  clear hb S3
  go_wp2_with fail
  go_ret
  exact ⟨rfl, S4.out.below⟩
theorem sameFc {x a x2 a2 : FF} (hX : false = decide (x = x2)) : Hid (∀ W : World, Calls Tryz.prog 54 #[.agg (cP x a), .agg (cP x2 a2)] W fun e w' => e = .returned (.bool false) ∧ Below W.heap.size W w') := hid fun W => sameFc' hX W
set_option maxHeartbeats 1000000 in
theorem evenC' {y r1 r2 r3 r4 r5 r6 R : FF} {t : Bool} (hr1 : r1 = y * y) (hr2 : r2 = r1 - 1) (hr3 : r3 = dd * r1) (hr4 : r4 = r3 + 1) (hr5 : r5 = FI r4) (hr6 : r6 = r2 * r5) (hR : R.val = rootN r6.val) (hT : t = decide (rt2 r6.val * rt2 r6.val % pp = r6.val)) (w : World) : Calls Tryz.prog 84 #[.agg (eF y)] w fun e w' => e = .returned (.tuple #[.agg (eF R), .bool t]) ∧ Below w.heap.size w w' := by
  have K0 := sqE hr1
  have K1 : Hid (∀ W : World, Calls Tryz.prog 103 #[.int .u64 1] W fun e w' => e = .returned (.agg (eF 1)) ∧ Below W.heap.size W w') := numE 1 (by omega) rfl
  have K2 := subE hr2
  have K3 := mulE hr3
  have K4 := addE hr4
  have K5 := invE hr5
  have K6 := mulE hr6
  have K7 := rootE hR hT
  clear hR hT hr1 hr2 hr3 hr4 hr5 hr6
  go_enter Tryz.func84, Tryz.ntmps84
  have S0 : Hid (St w w [] []) := hid (St.start w)
  go_upto_region 0 with fail
  refine wpLA_start ?_
  refine wpLA_box (eF y) (by rfl) rfl rfl ?_
  intro p1 w1 hp hz hb
  have S1 : Hid (St w w1 [(p1, eF y, ET)] []) := hid (S0.out.alloc hb hp hz)
  clear hp hz hb S0
  (try simp only [Act.put, List.getElem_toArray, List.getElem_cons_succ, List.getElem_cons_zero, List.setIfInBounds_toArray, List.set_cons_zero, List.set_cons_succ])
  refine wpLA_alloc (by rfl) rfl zeroF ?_
  intro p2 w2 hp hz hb
  have S2 : Hid (St w w2 [(p2, eF 0, ET), (p1, eF y, ET)] []) := hid (S1.out.alloc hb hp hz)
  clear hp hz hb S1
  (try simp only [Act.put, List.getElem_toArray, List.getElem_cons_succ, List.getElem_cons_zero, List.setIfInBounds_toArray, List.set_cons_zero, List.set_cons_succ])
  refine wpLA_take (.bool false) (yG_val _ (by rfl) (fun w' _ => by (go_simp; try rfl))) ?_
  (try simp only [Act.put, List.getElem_toArray, List.getElem_cons_succ, List.getElem_cons_zero, List.setIfInBounds_toArray, List.set_cons_zero, List.set_cons_succ])
  refine wpLA_end ?_
  intro w3 hb
  have S3 := hid (S2.out.on hb)
  clear hb S2
  go_upto_region 1 with fail
  refine wpLA_start ?_
  refine wpLA_take (.agg (eF y)) (yG_part (by rfl) ET (.tmp 1) rfl p1 0 rfl ET (eF y) (eF y) (0, 0) _ S3.out.cl.2.1 (eF_all y) Tryz.underlying80 rfl (infoF y)) ?_
  (try simp only [Act.put, List.getElem_toArray, List.getElem_cons_succ, List.getElem_cons_zero, List.setIfInBounds_toArray, List.set_cons_zero, List.set_cons_succ])
  refine wpLA_take (.agg (eF r1)) (yG_call (by rfl) (fun w' => by go_simp) (fun w' hb => K0.out w')) ?_
  (try simp only [Act.put, List.getElem_toArray, List.getElem_cons_succ, List.getElem_cons_zero, List.setIfInBounds_toArray, List.set_cons_zero, List.set_cons_succ])
  refine wpLA_take (.agg (eF 1)) (yG_call (by rfl) (fun w' => by go_simp) (fun w' hb => K1.out w')) ?_
  (try simp only [Act.put, List.getElem_toArray, List.getElem_cons_succ, List.getElem_cons_zero, List.setIfInBounds_toArray, List.set_cons_zero, List.set_cons_succ])
  refine wpLA_alloc (by rfl) rfl zeroF ?_
  intro p4 w4 hp hz hb
  have S4 : Hid (St w w4 [(p4, eF 0, ET), (p2, eF 0, ET), (p1, eF y, ET)] []) := hid (S3.out.alloc hb hp hz)
  clear hp hz hb S3
  (try simp only [Act.put, List.getElem_toArray, List.getElem_cons_succ, List.getElem_cons_zero, List.setIfInBounds_toArray, List.set_cons_zero, List.set_cons_succ])
  refine wpLA_alloc (by rfl) rfl zeroF ?_
  intro p5 w5 hp hz hb
  have S5 : Hid (St w w5 [(p5, eF 0, ET), (p4, eF 0, ET), (p2, eF 0, ET), (p1, eF y, ET)] []) := hid (S4.out.alloc hb hp hz)
  clear hp hz hb S4
  (try simp only [Act.put, List.getElem_toArray, List.getElem_cons_succ, List.getElem_cons_zero, List.setIfInBounds_toArray, List.set_cons_zero, List.set_cons_succ])
  refine wpLA_store rfl ET (.tmp 4) (.tmp 7) rfl p4 (eF r1) rfl rfl ET (eF 0) S5.out.cl.2.1 (infoF r1) ((eF_size 0).trans (eF_size r1).symm) (eF_one r1) ?_
  intro wx hb
  have S6 : Hid (St w (wx.setRow p4 (eF r1)) [(p5, eF 0, ET), (p4, eF r1, ET), (p2, eF 0, ET), (p1, eF y, ET)] []) := hid ((S5.out.on hb).put0 1 rfl)
  clear hb S5
  generalize wx.setRow p4 (eF r1) = w6 at S6 ⊢
  (try simp only [Act.put, List.getElem_toArray, List.getElem_cons_succ, List.getElem_cons_zero, List.setIfInBounds_toArray, List.set_cons_zero, List.set_cons_succ])
  refine wpLA_store rfl ET (.tmp 5) (.tmp 8) rfl p5 (eF 1) rfl rfl ET (eF 0) S6.out.cl.1 (infoF 1) ((eF_size 0).trans (eF_size 1).symm) (eF_one 1) ?_
  intro wx hb
  have S7 : Hid (St w (wx.setRow p5 (eF 1)) [(p5, eF 1, ET), (p4, eF r1, ET), (p2, eF 0, ET), (p1, eF y, ET)] []) := hid ((S6.out.on hb).put0 0 rfl)
  clear hb S6
  generalize wx.setRow p5 (eF 1) = w7 at S7 ⊢
  (try simp only [Act.put, List.getElem_toArray, List.getElem_cons_succ, List.getElem_cons_zero, List.setIfInBounds_toArray, List.set_cons_zero, List.set_cons_succ])
  refine wpLA_end ?_
  intro w8 hb
  have S8 := hid (S7.out.on hb)
  clear hb S7
  go_upto_region 2 with fail
  refine wp_region_grA 13 (by kernel_rfl) (by decide) ?_
  refine wpGrA_take (i := 0) (.agg (eF r1)) rfl (by kernel_rfl) (by kernel_rfl) (fun _ _ _ h => h) (yG_part (by rfl) ET (.tmp 4) rfl p4 0 rfl ET (eF r1) (eF r1) (0, 0) _ S8.out.cl.2.1 (eF_all r1) Tryz.underlying80 rfl (infoF r1)) ?_
  (try simp only [Act.put, List.getElem_toArray, List.getElem_cons_succ, List.getElem_cons_zero, List.setIfInBounds_toArray, List.set_cons_zero, List.set_cons_succ])
  refine wpGrA_take (i := 1) (.agg (eF 1)) rfl (by kernel_rfl) (by kernel_rfl) (fun _ _ _ h => h) (yG_part (by rfl) ET (.tmp 5) rfl p5 0 rfl ET (eF 1) (eF 1) (0, 0) _ S8.out.cl.1 (eF_all 1) Tryz.underlying80 rfl (infoF 1)) ?_
  (try simp only [Act.put, List.getElem_toArray, List.getElem_cons_succ, List.getElem_cons_zero, List.setIfInBounds_toArray, List.set_cons_zero, List.set_cons_succ])
  refine wpGrA_take (i := 2) (.agg (eF r2)) rfl (by kernel_rfl) (by kernel_rfl) (fun _ _ _ h => h) (yG_call (by rfl) (fun w' => by go_simp) (fun w' hb => K2.out w')) ?_
  (try simp only [Act.put, List.getElem_toArray, List.getElem_cons_succ, List.getElem_cons_zero, List.setIfInBounds_toArray, List.set_cons_zero, List.set_cons_succ])
  refine wpGrA_take (i := 3) (.agg (eF dd)) rfl (by kernel_rfl) (by kernel_rfl) (fun _ _ _ h => h) (yG_call (by rfl) (fun w' => by go_simp) (fun w' hb => factorC.out w')) ?_
  (try simp only [Act.put, List.getElem_toArray, List.getElem_cons_succ, List.getElem_cons_zero, List.setIfInBounds_toArray, List.set_cons_zero, List.set_cons_succ])
  refine wpGrA_take (i := 4) (.agg (eF r1)) rfl (by kernel_rfl) (by kernel_rfl) (fun _ _ _ h => h) (yG_part (by rfl) ET (.tmp 4) rfl p4 0 rfl ET (eF r1) (eF r1) (0, 0) _ S8.out.cl.2.1 (eF_all r1) Tryz.underlying80 rfl (infoF r1)) ?_
  (try simp only [Act.put, List.getElem_toArray, List.getElem_cons_succ, List.getElem_cons_zero, List.setIfInBounds_toArray, List.set_cons_zero, List.set_cons_succ])
  refine wpGrA_take (i := 5) (.agg (eF r3)) rfl (by kernel_rfl) (by kernel_rfl) (fun _ _ _ h => h) (yG_call (by rfl) (fun w' => by go_simp) (fun w' hb => K3.out w')) ?_
  (try simp only [Act.put, List.getElem_toArray, List.getElem_cons_succ, List.getElem_cons_zero, List.setIfInBounds_toArray, List.set_cons_zero, List.set_cons_succ])
  refine wpGrA_take (i := 6) (.agg (eF 1)) rfl (by kernel_rfl) (by kernel_rfl) (fun _ _ _ h => h) (yG_part (by rfl) ET (.tmp 5) rfl p5 0 rfl ET (eF 1) (eF 1) (0, 0) _ S8.out.cl.1 (eF_all 1) Tryz.underlying80 rfl (infoF 1)) ?_
  (try simp only [Act.put, List.getElem_toArray, List.getElem_cons_succ, List.getElem_cons_zero, List.setIfInBounds_toArray, List.set_cons_zero, List.set_cons_succ])
  refine wpGrA_take (i := 7) (.agg (eF r4)) rfl (by kernel_rfl) (by kernel_rfl) (fun _ _ _ h => h) (yG_call (by rfl) (fun w' => by go_simp) (fun w' hb => K4.out w')) ?_
  (try simp only [Act.put, List.getElem_toArray, List.getElem_cons_succ, List.getElem_cons_zero, List.setIfInBounds_toArray, List.set_cons_zero, List.set_cons_succ])
  refine wpGrA_take (i := 8) (.agg (eF r5)) rfl (by kernel_rfl) (by kernel_rfl) (fun _ _ _ h => h) (yG_call (by rfl) (fun w' => by go_simp) (fun w' hb => K5.out w')) ?_
  (try simp only [Act.put, List.getElem_toArray, List.getElem_cons_succ, List.getElem_cons_zero, List.setIfInBounds_toArray, List.set_cons_zero, List.set_cons_succ])
  refine wpGrA_take (i := 9) (.agg (eF r6)) rfl (by kernel_rfl) (by kernel_rfl) (fun _ _ _ h => h) (yG_call (by rfl) (fun w' => by go_simp) (fun w' hb => K6.out w')) ?_
  (try simp only [Act.put, List.getElem_toArray, List.getElem_cons_succ, List.getElem_cons_zero, List.setIfInBounds_toArray, List.set_cons_zero, List.set_cons_succ])
  refine wpGrA_take (i := 10) (.tuple #[(.agg (eF R)), (.bool t)]) rfl (by kernel_rfl) (by kernel_rfl) (fun _ _ _ h => h) (yG_call (by rfl) (fun w' => by go_simp) (fun w' hb => K7.out w')) ?_
  (try simp only [Act.put, List.getElem_toArray, List.getElem_cons_succ, List.getElem_cons_zero, List.setIfInBounds_toArray, List.set_cons_zero, List.set_cons_succ])
  refine wpGrA_take (i := 11) (.agg (eF R)) rfl (by kernel_rfl) (by kernel_rfl) (fun _ _ _ h => h) (yG_val _ (by rfl) (fun w' _ => by (go_simp; try rfl))) ?_
  (try simp only [Act.put, List.getElem_toArray, List.getElem_cons_succ, List.getElem_cons_zero, List.setIfInBounds_toArray, List.set_cons_zero, List.set_cons_succ])
  refine wpGrA_take (i := 12) (.bool t) rfl (by kernel_rfl) (by kernel_rfl) (fun _ _ _ h => h) (yG_val _ (by rfl) (fun w' _ => by (go_simp; try rfl))) ?_
  (try simp only [Act.put, List.getElem_toArray, List.getElem_cons_succ, List.getElem_cons_zero, List.setIfInBounds_toArray, List.set_cons_zero, List.set_cons_succ])
  refine wpGrA_end (by kernel_rfl) ?_
  intro w9 hb
  have S9 := hid (S8.out.on hb)
  clear hb S8
  refine wpLA_here ?_
  refine wpLA_store rfl ET (.tmp 2) (.tmp 20) rfl p2 (eF R) rfl rfl ET (eF 0) S9.out.cl.2.2.1 (infoF R) ((eF_size 0).trans (eF_size R).symm) (eF_one R) ?_
  intro wx hb
  have S10 : Hid (St w (wx.setRow p2 (eF R)) [(p5, eF 1, ET), (p4, eF r1, ET), (p2, eF R, ET), (p1, eF y, ET)] []) := hid ((S9.out.on hb).put0 2 rfl)
  clear hb S9
  generalize wx.setRow p2 (eF R) = w10 at S10 ⊢
  (try simp only [Act.put, List.getElem_toArray, List.getElem_cons_succ, List.getElem_cons_zero, List.setIfInBounds_toArray, List.set_cons_zero, List.set_cons_succ])
  refine wpLA_take (.bool t) (yG_val _ (by rfl) (fun w' _ => by (go_simp; try rfl))) ?_
  (try simp only [Act.put, List.getElem_toArray, List.getElem_cons_succ, List.getElem_cons_zero, List.setIfInBounds_toArray, List.set_cons_zero, List.set_cons_succ])
  refine wpLA_end ?_
  intro w11 hb
  have S11 := hid (S10.out.on hb)
  clear hb S10
  go_wp2_with fail
  exact bodyPost_ret (v := .tuple #[.agg (eF R), .bool t]) (results_cell_tmp rfl _ _ ⟨p2, 0, none⟩ _ _ rfl rfl (run_loadVar_row _ p2 ET ET _ (0, 0) _ S11.out.cl.2.2.1 Tryz.underlying80 rfl (infoF R))) rfl ⟨rfl, S11.out.below⟩
theorem evenC {y r1 r2 r3 r4 r5 r6 R : FF} {t : Bool} (hr1 : r1 = y * y) (hr2 : r2 = r1 - 1) (hr3 : r3 = dd * r1) (hr4 : r4 = r3 + 1) (hr5 : r5 = FI r4) (hr6 : r6 = r2 * r5) (hR : R.val = rootN r6.val) (hT : t = decide (rt2 r6.val * rt2 r6.val % pp = r6.val)) : Hid (∀ W : World, Calls Tryz.prog 84 #[.agg (eF y)] W fun e w' => e = .returned (.tuple #[.agg (eF R), .bool t]) ∧ Below W.heap.size W w') := hid fun W => evenC' hr1 hr2 hr3 hr4 hr5 hr6 hR hT W
end
end Go.Proofs.YtgehfbcagaaggaaGreatDoor
end
section
namespace Go.Proofs.YtgehfbcagaaggaaGreatDoor
open Go Go.RowKit
set_option linter.unusedVariables false
set_option linter.unusedSimpArgs false
theorem tm_even {p : Pt} (hp : p.on) (k : Nat) : Pt.times (2 * k + 0) p = ((Pt.times k p).add (Pt.times k p)).add Pt.zero := by
  rw [Nat.add_zero, Nat.two_mul, Pt.times_add hp, Pt.add_zero (Pt.add_on (Pt.times_on hp _) (Pt.times_on hp _))]
theorem tm_odd {p : Pt} (hp : p.on) (k : Nat) : Pt.times (2 * k + 1) p = ((Pt.times k p).add (Pt.times k p)).add p := by
  show (Pt.times (2 * k) p).add p = _
  rw [Nat.two_mul, Pt.times_add hp]
theorem bitE (n : SF) (m : Nat) (hm : m ≤ 252) {t : Nat} (ht : t = n.val / 2 ^ m % 2) : Hid (∀ W : World, Calls Tryz.prog 106 #[.agg (sF n), .int .i64 (m : Int)] W fun e w' => e = .returned (.int .i64 (t : Int)) ∧ Below W.heap.size W w') := hid fun W => by
  have h := Bit_s n.val (m : Int) W (by have := n.isLt; omega) (by omega) (by omega)
  rw [if_pos (by omega), show ((m : Int)).toNat = m from rfl, ← ht] at h
  exact h
set_option maxRecDepth 100000 in
set_option maxHeartbeats 4000000 in
theorem productC' {x a : FF} {p : Pt} (hp : p.on) (hx : x = p.x) (ha : a = p.y - 1) (n : SF) (w : World) : Calls Tryz.prog 78 #[.agg (cP x a), .agg (sF n)] w fun e w' => ∃ X Y Z T, e = .returned (.agg (cR X Y Z T)) ∧ Ex4 X Y Z T (Pt.times n.val p) ∧ Below w.heap.size w w' := by
  have hy : p.y = a + 1 := by rw [ha]; generalize p.y = b; grobner
  obtain ⟨l0, hl0⟩ : ∃ v : FF, v = Pt.zero.y - Pt.zero.x := ⟨_, rfl⟩
  obtain ⟨m0, hm0⟩ : ∃ v : FF, v = Pt.zero.y + Pt.zero.x := ⟨_, rfl⟩
  obtain ⟨q0, hq0⟩ : ∃ v : FF, v = (dd + dd) * Pt.zero.x * Pt.zero.y := ⟨_, rfl⟩
  obtain ⟨l1, hl1⟩ : ∃ v : FF, v = p.y - p.x := ⟨_, rfl⟩
  obtain ⟨m1, hm1⟩ : ∃ v : FF, v = p.y + p.x := ⟨_, rfl⟩
  obtain ⟨q1, hq1⟩ : ∃ v : FF, v = (dd + dd) * p.x * p.y := ⟨_, rfl⟩
  have KZ := addendC (x := 0) (a := 0) (y := 1) (by decide +kernel) (l := l0) (m := m0) (p := q0) hl0 hm0 hq0
  have KP := addendC (x := x) (a := a) (y := p.y) hy (l := l1) (m := m1) (p := q1) (by rw [hl1, hx]) (by rw [hm1, hx]) (by rw [hq1, hx])
  have KR := ratiosC (x := 0) (a := 0) (y := 1) (t := 0) (by decide +kernel) (by decide +kernel)
  have HA0 := hid (show l0 = Pt.zero.y - Pt.zero.x ∧ m0 = Pt.zero.y + Pt.zero.x ∧ q0 = (dd + dd) * Pt.zero.x * Pt.zero.y from ⟨hl0, hm0, hq0⟩)
  have HA1 := hid (show l1 = p.y - p.x ∧ m1 = p.y + p.x ∧ q1 = (dd + dd) * p.x * p.y from ⟨hl1, hm1, hq1⟩)
  have HE0 : Hid (Ex4 0 1 1 0 (Pt.times (n.val / 2 ^ 253) p)) := hid (by
    rw [Nat.div_eq_of_lt (Nat.lt_trans n.isLt (by decide +kernel))]
    exact ex_zero)
  have HP := hid hp
  clear hl0 hm0 hq0 hl1 hm1 hq1 hy hx ha hp
  go_enter Tryz.func78, Tryz.ntmps78
  have S0 : Hid (St w w [] []) := hid (St.start w)
  go_upto_region 0 with fail
  refine wpLA_start ?_
  refine wpLA_box (cP x a) (by rfl) rfl rfl ?_
  intro p1 w1 hp hz hb
  have S1 : Hid (St w w1 [(p1, cP x a, PT)] []) := hid (S0.out.alloc hb hp hz)
  clear hp hz hb S0
  (try simp only [Act.put, List.getElem_toArray, List.getElem_cons_succ, List.getElem_cons_zero, List.setIfInBounds_toArray, List.set_cons_zero, List.set_cons_succ])
  refine wpLA_box (sF n) (by rfl) rfl rfl ?_
  intro p2 w2 hp hz hb
  have S2 : Hid (St w w2 [(p2, sF n, ST), (p1, cP x a, PT)] []) := hid (S1.out.alloc hb hp hz)
  clear hp hz hb S1
  (try simp only [Act.put, List.getElem_toArray, List.getElem_cons_succ, List.getElem_cons_zero, List.setIfInBounds_toArray, List.set_cons_zero, List.set_cons_succ])
  refine wpLA_alloc (by rfl) rfl zeroRc ?_
  intro p3 w3 hp hz hb
  have S3 : Hid (St w w3 [(p3, cR 0 0 0 0, RT), (p2, sF n, ST), (p1, cP x a, PT)] []) := hid (S2.out.alloc hb hp hz)
  clear hp hz hb S2
  (try simp only [Act.put, List.getElem_toArray, List.getElem_cons_succ, List.getElem_cons_zero, List.setIfInBounds_toArray, List.set_cons_zero, List.set_cons_succ])
  refine wpLA_end ?_
  intro w4 hb
  have S4 := hid (S3.out.on hb)
  clear hb S3
  go_wp2_with fail
  refine wp_scope_at' 0 (fun a' w' => ∃ (m p2 p3 p4 p5 p6 : Nat) (X Y Z T : FF) (u8 u9 u10 u11 u12 u13 u14 u15 u16 u17 u18 u19 u20 u21 u22 u23 u24 u25 u26 u27 : Value), a' = { tmps := (.agg (cP x a) :: .agg (sF n) :: .pointer (some ⟨p2, 0, none⟩) :: .pointer (some ⟨p3, 0, none⟩) :: .pointer (some ⟨p4, 0, none⟩) :: .pointer (some ⟨p5, 0, none⟩) :: .pointer (some ⟨p6, 0, none⟩) :: .int .i64 ((m : Nat) : Int) :: u8 :: u9 :: u10 :: u11 :: u12 :: u13 :: u14 :: u15 :: u16 :: u17 :: u18 :: u19 :: u20 :: u21 :: u22 :: u23 :: u24 :: u25 :: u26 :: u27 :: []).toArray, defers := [] } ∧ m ≤ 253 ∧ Ex4 X Y Z T (Pt.times (n.val / 2 ^ m) p) ∧ St w w' [(p6, cR X Y Z T, RT), (p5, cT l0 m0 q0 l1 m1 q1, TT), (p4, cR 0 0 0 0, RT), (p3, sF n, ST), (p2, cP x a, PT)] []) (fun a' _ => (intOf (a'.tmps.getD 7 undef)).toNat) rfl ?_ ?_
  · intro Qj hQr hQp hJ
    go_upto_region 1 with fail
    refine wp_region_grA 6 (by kernel_rfl) (by decide) ?_
    refine wpGrA_take (i := 0) (.agg (cP 0 0)) rfl (by kernel_rfl) (by kernel_rfl) (fun c a2 w2 h => by have h2 := (hQp c _ _).1 h; exact (hQp c a2 w2).2 h2) (yG_call (by rfl) (fun w' => by go_simp) (fun w' hb => nothingC.out w')) ?_
    (try simp only [Act.put, List.getElem_toArray, List.getElem_cons_succ, List.getElem_cons_zero, List.setIfInBounds_toArray, List.set_cons_zero, List.set_cons_succ])
    refine wpGrA_take (i := 1) (.agg (cA l0 m0 q0)) rfl (by kernel_rfl) (by kernel_rfl) (fun c a2 w2 h => by have h2 := (hQp c _ _).1 h; exact (hQp c a2 w2).2 h2) (yG_call (by rfl) (fun w' => by go_simp) (fun w' hb => KZ.out w')) ?_
    (try simp only [Act.put, List.getElem_toArray, List.getElem_cons_succ, List.getElem_cons_zero, List.setIfInBounds_toArray, List.set_cons_zero, List.set_cons_succ])
    refine wpGrA_take (i := 2) (.agg (cP x a)) rfl (by kernel_rfl) (by kernel_rfl) (fun c a2 w2 h => by have h2 := (hQp c _ _).1 h; exact (hQp c a2 w2).2 h2) (yG_part (by rfl) PT (.tmp 2) rfl p1 0 rfl PT (cP x a) (cP x a) (0, 0) _ S4.out.cl.2.2.1 (cP_all x a) Tryz.underlying82 rfl (infoPc x a)) ?_
    (try simp only [Act.put, List.getElem_toArray, List.getElem_cons_succ, List.getElem_cons_zero, List.setIfInBounds_toArray, List.set_cons_zero, List.set_cons_succ])
    refine wpGrA_take (i := 3) (.agg (cA l1 m1 q1)) rfl (by kernel_rfl) (by kernel_rfl) (fun c a2 w2 h => by have h2 := (hQp c _ _).1 h; exact (hQp c a2 w2).2 h2) (yG_call (by rfl) (fun w' => by go_simp) (fun w' hb => KP.out w')) ?_
    (try simp only [Act.put, List.getElem_toArray, List.getElem_cons_succ, List.getElem_cons_zero, List.setIfInBounds_toArray, List.set_cons_zero, List.set_cons_succ])
    refine wpGrA_take (i := 4) (.agg (cT l0 m0 q0 l1 m1 q1)) rfl (by kernel_rfl) (by kernel_rfl) (fun c a2 w2 h => by have h2 := (hQp c _ _).1 h; exact (hQp c a2 w2).2 h2) (yG_build (by rfl) TT _ rfl [(0, (.agg (cA l0 m0 q0))), (1, (.agg (cA l1 m1 q1)))] rfl _ (builtTc l0 m0 q0 l1 m1 q1)) ?_
    (try simp only [Act.put, List.getElem_toArray, List.getElem_cons_succ, List.getElem_cons_zero, List.setIfInBounds_toArray, List.set_cons_zero, List.set_cons_succ])
    refine wpGrA_alloc (i := 5) rfl rfl rfl zeroTc (by kernel_rfl) ?_
    intro p5_0 w5 hp hz hb
    have S5 : Hid (St w w5 [(p5_0, cT 0 0 0 0 0 0, TT), (p3, cR 0 0 0 0, RT), (p2, sF n, ST), (p1, cP x a, PT)] []) := hid (S4.out.alloc hb hp hz)
    clear hb hp hz S4
    (try simp only [Act.put, List.getElem_toArray, List.getElem_cons_succ, List.getElem_cons_zero, List.setIfInBounds_toArray, List.set_cons_zero, List.set_cons_succ])
    refine wpLA_here ?_
    refine wpLA_store rfl TT (.tmp 5) (.tmp 12) rfl p5_0 (cT l0 m0 q0 l1 m1 q1) rfl rfl TT (cT 0 0 0 0 0 0) S5.out.cl.1 (infoT l0 m0 q0 l1 m1 q1) ((cT_size 0 0 0 0 0 0).trans (cT_size l0 m0 q0 l1 m1 q1).symm) (cT_one l0 m0 q0 l1 m1 q1) ?_
    intro wx hb
    have S6 : Hid (St w (wx.setRow p5_0 (cT l0 m0 q0 l1 m1 q1)) [(p5_0, cT l0 m0 q0 l1 m1 q1, TT), (p3, cR 0 0 0 0, RT), (p2, sF n, ST), (p1, cP x a, PT)] []) := hid ((S5.out.on hb).put0 0 rfl)
    clear hb S5
    generalize wx.setRow p5_0 (cT l0 m0 q0 l1 m1 q1) = w6 at S6 ⊢
    (try simp only [Act.put, List.getElem_toArray, List.getElem_cons_succ, List.getElem_cons_zero, List.setIfInBounds_toArray, List.set_cons_zero, List.set_cons_succ])
    refine wpLA_end ?_
    intro w7 hb
    have S7 := hid (S6.out.on hb)
    clear hb S6
    go_upto_region 2 with fail
    refine wpLA_start ?_
    refine wpLA_take (.agg (cP 0 0)) (yG_call (by rfl) (fun w' => by go_simp) (fun w' hb => nothingC.out w')) ?_
    (try simp only [Act.put, List.getElem_toArray, List.getElem_cons_succ, List.getElem_cons_zero, List.setIfInBounds_toArray, List.set_cons_zero, List.set_cons_succ])
    refine wpLA_take (.agg (cR 0 1 1 0)) (yG_call (by rfl) (fun w' => by go_simp) (fun w' hb => KR.out w')) ?_
    (try simp only [Act.put, List.getElem_toArray, List.getElem_cons_succ, List.getElem_cons_zero, List.setIfInBounds_toArray, List.set_cons_zero, List.set_cons_succ])
    refine wpLA_alloc (by rfl) rfl zeroRc ?_
    intro p8 w8 hp hz hb
    have S8 : Hid (St w w8 [(p8, cR 0 0 0 0, RT), (p5_0, cT l0 m0 q0 l1 m1 q1, TT), (p3, cR 0 0 0 0, RT), (p2, sF n, ST), (p1, cP x a, PT)] []) := hid (S7.out.alloc hb hp hz)
    clear hp hz hb S7
    (try simp only [Act.put, List.getElem_toArray, List.getElem_cons_succ, List.getElem_cons_zero, List.setIfInBounds_toArray, List.set_cons_zero, List.set_cons_succ])
    refine wpLA_store rfl RT (.tmp 6) (.tmp 14) rfl p8 (cR 0 1 1 0) rfl rfl RT (cR 0 0 0 0) S8.out.cl.1 (infoR 0 1 1 0) ((cR_size 0 0 0 0).trans (cR_size 0 1 1 0).symm) (cR_one 0 1 1 0) ?_
    intro wx hb
    have S9 : Hid (St w (wx.setRow p8 (cR 0 1 1 0)) [(p8, cR 0 1 1 0, RT), (p5_0, cT l0 m0 q0 l1 m1 q1, TT), (p3, cR 0 0 0 0, RT), (p2, sF n, ST), (p1, cP x a, PT)] []) := hid ((S8.out.on hb).put0 0 rfl)
    clear hb S8
    generalize wx.setRow p8 (cR 0 1 1 0) = w9 at S9 ⊢
    (try simp only [Act.put, List.getElem_toArray, List.getElem_cons_succ, List.getElem_cons_zero, List.setIfInBounds_toArray, List.set_cons_zero, List.set_cons_succ])
    refine wpLA_end ?_
    intro w10 hb
    have S10 := hid (S9.out.on hb)
    clear hb S9
    go_wp2_with fail
    refine wp_label ?_
    rename_i K hK
    refine hK _ _ (hJ _ _ ⟨253, p1, p2, p3, p5_0, p8, 0, 1, 1, 0, _, _, _, _, _, _, _, _, _, _, _, _, _, _, _, _, _, _, _, _, rfl, Nat.le_refl _, HE0.out, S10.out⟩)
  · rintro a' w' ⟨m, p2, p3, p4, p5, p6, X, Y, Z, T, u8, u9, u10, u11, u12, u13, u14, u15, u16, u17, u18, u19, u20, u21, u22, u23, u24, u25, u26, u27, rfl, hm, hX, hS⟩
    have HS := hid hS; have HX := hid hX
    clear hS hX KZ KP KR HE0
    rcases m with _ | m
    · rw [Nat.pow_zero, Nat.div_one] at HX
      clear HA0 HA1 HP hm
      go_upto_region 4 with fail
      refine wpLA_start ?_
      refine wpLA_take (.int .i64 (((0 : Nat) : Int))) (yG_val _ (by rfl) (fun w' _ => by (go_simp; try rfl))) ?_
      (try simp only [Act.put, List.getElem_toArray, List.getElem_cons_succ, List.getElem_cons_zero, List.setIfInBounds_toArray, List.set_cons_zero, List.set_cons_succ])
      refine wpLA_take (.bool true) (yG_val _ (by rfl) (fun w' _ => by (go_simp; try rfl))) ?_
      (try simp only [Act.put, List.getElem_toArray, List.getElem_cons_succ, List.getElem_cons_zero, List.setIfInBounds_toArray, List.set_cons_zero, List.set_cons_succ])
      refine wpLA_end ?_
      intro w101 hb
      have S101 := hid (HS.out.on hb)
      clear hb HS
      go_upto_region 5 with fail
      refine wpLA_start ?_
      refine wpLA_take (.agg (cR X Y Z T)) (yG_part (by rfl) RT (.tmp 6) rfl p6 0 rfl RT (cR X Y Z T) (cR X Y Z T) (0, 0) _ S101.out.cl.1 (cR_all X Y Z T) Tryz.underlying107 rfl (infoR X Y Z T)) ?_
      (try simp only [Act.put, List.getElem_toArray, List.getElem_cons_succ, List.getElem_cons_zero, List.setIfInBounds_toArray, List.set_cons_zero, List.set_cons_succ])
      refine wpLA_store rfl RT (.tmp 4) (.tmp 17) rfl p4 (cR X Y Z T) rfl rfl RT (cR 0 0 0 0) S101.out.cl.2.2.1 (infoR X Y Z T) ((cR_size 0 0 0 0).trans (cR_size X Y Z T).symm) (cR_one X Y Z T) ?_
      intro wx hb
      have S102 : Hid (St w (wx.setRow p4 (cR X Y Z T)) [(p6, cR X Y Z T, RT), (p5, cT l0 m0 q0 l1 m1 q1, TT), (p4, cR X Y Z T, RT), (p3, sF n, ST), (p2, cP x a, PT)] []) := hid ((S101.out.on hb).put0 2 rfl)
      clear hb S101
      generalize wx.setRow p4 (cR X Y Z T) = w102 at S102 ⊢
      (try simp only [Act.put, List.getElem_toArray, List.getElem_cons_succ, List.getElem_cons_zero, List.setIfInBounds_toArray, List.set_cons_zero, List.set_cons_succ])
      refine wpLA_end ?_
      intro w103 hb
      have S103 := hid (S102.out.on hb)
      clear hb S102
      go_wp2_with fail
      simp only [Exit.jump]
      exact bodyPost_ret (v := .agg (cR X Y Z T)) (results_cell_row rfl _ _ p4 RT _ (0, 0) _ rfl S103.out.cl.2.2.1 Tryz.underlying107 rfl (infoR X Y Z T)) rfl ⟨X, Y, Z, T, rfl, HX.out, S103.out.below⟩
    · have HM := hid hm
      have hp := HP.out
      have hst := half_step n.val m
      obtain ⟨t, ht⟩ : ∃ t, t = n.val / 2 ^ m % 2 := ⟨_, rfl⟩
      have ht2 : t < 2 := by omega
      rw [← ht] at hst
      have HN1 : Hid ((((m + 1 : Nat) : Int) == 0) = false) := hid (by rw [beq_eq_false_iff_ne]; omega)
      have HN2 : Hid (IntKind.i64.wrap (m : Int) = (m : Int)) := hid (IntWalk.i64_in _ (by omega))
      clear hm
      obtain ⟨B_, hB_⟩ : ∃ v : FF, v = Y * Y := ⟨_, rfl⟩
      obtain ⟨A_, hA_⟩ : ∃ v : FF, v = X * X := ⟨_, rfl⟩
      obtain ⟨C_, hC_⟩ : ∃ v : FF, v = Z * Z := ⟨_, rfl⟩
      obtain ⟨S_, hS_⟩ : ∃ v : FF, v = B_ + A_ := ⟨_, rfl⟩
      obtain ⟨D_, hD_⟩ : ∃ v : FF, v = B_ - A_ := ⟨_, rfl⟩
      obtain ⟨X2, hX2⟩ : ∃ v : FF, v = ((X + Y) * (X + Y) - S_) * (C_ + C_ - D_) := ⟨_, rfl⟩
      obtain ⟨Y2, hY2⟩ : ∃ v : FF, v = S_ * D_ := ⟨_, rfl⟩
      obtain ⟨Z2, hZ2⟩ : ∃ v : FF, v = D_ * (C_ + C_ - D_) := ⟨_, rfl⟩
      obtain ⟨T2, hT2⟩ : ∃ v : FF, v = ((X + Y) * (X + Y) - S_) * S_ := ⟨_, rfl⟩
      have KT := twiceC (X := X) (Y := Y) (Z := Z) (T := T) hA_ hB_ hC_ hS_ hD_ hX2 hY2 hZ2 hT2
      have E2 := ex_twice HX.out (Pt.times_on hp _) hA_ hB_ hC_ hS_ hD_ hX2 hY2 hZ2 hT2
      clear hA_ hB_ hC_ hS_ hD_ hX2 hY2 hZ2 hT2 HX
      rcases (by omega : t = 0 ∨ t = 1) with rfl | rfl
      · have ht0 := ht
        obtain ⟨A_, hA_⟩ : ∃ v : FF, v = (Y2 - X2) * l0 := ⟨_, rfl⟩
        obtain ⟨B_, hB_⟩ : ∃ v : FF, v = (Y2 + X2) * m0 := ⟨_, rfl⟩
        obtain ⟨D_, hD_⟩ : ∃ v : FF, v = Z2 + Z2 := ⟨_, rfl⟩
        obtain ⟨C_, hC_⟩ : ∃ v : FF, v = T2 * q0 := ⟨_, rfl⟩
        obtain ⟨X3, hX3⟩ : ∃ v : FF, v = (B_ - A_) * (D_ - C_) := ⟨_, rfl⟩
        obtain ⟨Y3, hY3⟩ : ∃ v : FF, v = (B_ + A_) * (D_ + C_) := ⟨_, rfl⟩
        obtain ⟨Z3, hZ3⟩ : ∃ v : FF, v = (D_ + C_) * (D_ - C_) := ⟨_, rfl⟩
        obtain ⟨T3, hT3⟩ : ∃ v : FF, v = (B_ - A_) * (B_ + A_) := ⟨_, rfl⟩
        have KA := andC (X := X2) (Y := Y2) (Z := Z2) (T := T2) (l := l0) (m := m0) (p := q0) hA_ hB_ hD_ hC_ hX3 hY3 hZ3 hT3
        have E3 := ex_and E2 (Pt.add_on (Pt.times_on hp _) (Pt.times_on hp _)) Pt.zero_on HA0.out.1 HA0.out.2.1 HA0.out.2.2 hA_ hB_ hD_ hC_ hX3 hY3 hZ3 hT3
        have KB := bitE n m (by have := HM.out; omega) (t := 0) (by omega)
        have HX3 : Hid (Ex4 X3 Y3 Z3 T3 (Pt.times (n.val / 2 ^ m) p)) := hid (by rw [hst, tm_even hp]; exact E3)
        clear hA_ hB_ hD_ hC_ hX3 hY3 hZ3 hT3 E2 E3 hst ht ht0 ht2 hp
        go_upto_region 4 with fail
        refine wpLA_start ?_
        refine wpLA_take (.int .i64 (((m + 1 : Nat) : Int))) (yG_val _ (by rfl) (fun w' _ => by (go_simp; try rfl))) ?_
        (try simp only [Act.put, List.getElem_toArray, List.getElem_cons_succ, List.getElem_cons_zero, List.setIfInBounds_toArray, List.set_cons_zero, List.set_cons_succ])
        refine wpLA_take (.bool false) (yG_val _ (by rfl) (fun w' _ => by (go_simp; omega))) ?_
        (try simp only [Act.put, List.getElem_toArray, List.getElem_cons_succ, List.getElem_cons_zero, List.setIfInBounds_toArray, List.set_cons_zero, List.set_cons_succ])
        refine wpLA_end ?_
        intro w101 hb
        have S101 := hid (HS.out.on hb)
        clear hb HS
        go_upto_region 6 with fail
        refine wpLA_start ?_
        refine wpLA_take (.int .i64 (((m + 1 : Nat) : Int))) (yG_val _ (by rfl) (fun w' _ => by (go_simp; try rfl))) ?_
        (try simp only [Act.put, List.getElem_toArray, List.getElem_cons_succ, List.getElem_cons_zero, List.setIfInBounds_toArray, List.set_cons_zero, List.set_cons_succ])
        refine wpLA_take (.int .i64 ((m : Nat))) (yG_val _ (by rfl) (fun w' _ => by (go_simp; exact HN2.out))) ?_
        (try simp only [Act.put, List.getElem_toArray, List.getElem_cons_succ, List.getElem_cons_zero, List.setIfInBounds_toArray, List.set_cons_zero, List.set_cons_succ])
        refine wpLA_take (.int .i64 ((m : Nat))) (yG_val _ (by rfl) (fun w' _ => by (go_simp; try rfl))) ?_
        (try simp only [Act.put, List.getElem_toArray, List.getElem_cons_succ, List.getElem_cons_zero, List.setIfInBounds_toArray, List.set_cons_zero, List.set_cons_succ])
        refine wpLA_end ?_
        intro w102 hb
        have S102 := hid (S101.out.on hb)
        clear hb S101
        go_upto_region 7 with fail
        refine wp_region_grA 8 (by kernel_rfl) (by decide) ?_
        refine wpGrA_take (i := 0) (.agg (cR X Y Z T)) rfl (by kernel_rfl) (by kernel_rfl) (fun _ _ _ h => h) (yG_part (by rfl) RT (.tmp 6) rfl p6 0 rfl RT (cR X Y Z T) (cR X Y Z T) (0, 0) _ S102.out.cl.1 (cR_all X Y Z T) Tryz.underlying107 rfl (infoR X Y Z T)) ?_
        (try simp only [Act.put, List.getElem_toArray, List.getElem_cons_succ, List.getElem_cons_zero, List.setIfInBounds_toArray, List.set_cons_zero, List.set_cons_succ])
        refine wpGrA_take (i := 1) (.agg (cR X2 Y2 Z2 T2)) rfl (by kernel_rfl) (by kernel_rfl) (fun _ _ _ h => h) (yG_call (by rfl) (fun w' => by go_simp) (fun w' hb => KT.out w')) ?_
        (try simp only [Act.put, List.getElem_toArray, List.getElem_cons_succ, List.getElem_cons_zero, List.setIfInBounds_toArray, List.set_cons_zero, List.set_cons_succ])
        refine wpGrA_take (i := 2) (.agg (sF n)) rfl (by kernel_rfl) (by kernel_rfl) (fun _ _ _ h => h) (yG_part (by rfl) ST (.tmp 3) rfl p3 0 rfl ST (sF n) (sF n) (0, 0) _ S102.out.cl.2.2.2.1 (sF_all n) Tryz.underlying62 rfl (infoSF n)) ?_
        (try simp only [Act.put, List.getElem_toArray, List.getElem_cons_succ, List.getElem_cons_zero, List.setIfInBounds_toArray, List.set_cons_zero, List.set_cons_succ])
        refine wpGrA_take (i := 3) (.int .i64 ((m : Nat))) rfl (by kernel_rfl) (by kernel_rfl) (fun _ _ _ h => h) (yG_val _ (by rfl) (fun w' _ => by (go_simp; try rfl))) ?_
        (try simp only [Act.put, List.getElem_toArray, List.getElem_cons_succ, List.getElem_cons_zero, List.setIfInBounds_toArray, List.set_cons_zero, List.set_cons_succ])
        refine wpGrA_take (i := 4) (.int .i64 0) rfl (by kernel_rfl) (by kernel_rfl) (fun _ _ _ h => h) (yG_call (by rfl) (fun w' => by go_simp) (fun w' hb => KB.out w')) ?_
        (try simp only [Act.put, List.getElem_toArray, List.getElem_cons_succ, List.getElem_cons_zero, List.setIfInBounds_toArray, List.set_cons_zero, List.set_cons_succ])
        refine wpGrA_take (i := 5) (.pointer (some ⟨p5, 0, none⟩)) rfl (by kernel_rfl) (by kernel_rfl) (fun _ _ _ h => h) (yG_val _ (by rfl) (fun w' _ => by (go_simp; try rfl))) ?_
        (try simp only [Act.put, List.getElem_toArray, List.getElem_cons_succ, List.getElem_cons_zero, List.setIfInBounds_toArray, List.set_cons_zero, List.set_cons_succ])
        refine wpGrA_take (i := 6) (.agg (cA l0 m0 q0)) rfl (by kernel_rfl) (by kernel_rfl) (fun _ _ _ h => h) (yG_part (by rfl) AT (.tmp 25) rfl p5 0 rfl TT (cT l0 m0 q0 l1 m1 q1) (cA l0 m0 q0) (0, 0) _ S102.out.cl.2.1 (cT_0 l0 m0 q0 l1 m1 q1) Tryz.underlying116 rfl (infoA l0 m0 q0)) ?_
        (try simp only [Act.put, List.getElem_toArray, List.getElem_cons_succ, List.getElem_cons_zero, List.setIfInBounds_toArray, List.set_cons_zero, List.set_cons_succ])
        refine wpGrA_take (i := 7) (.agg (cR X3 Y3 Z3 T3)) rfl (by kernel_rfl) (by kernel_rfl) (fun _ _ _ h => h) (yG_call (by rfl) (fun w' => by go_simp) (fun w' hb => KA.out w')) ?_
        (try simp only [Act.put, List.getElem_toArray, List.getElem_cons_succ, List.getElem_cons_zero, List.setIfInBounds_toArray, List.set_cons_zero, List.set_cons_succ])
        refine wpGrA_end (by kernel_rfl) ?_
        intro w103 hb
        have S103 := hid (S102.out.on hb)
        clear hb S102
        refine wpLA_here ?_
        refine wpLA_store rfl RT (.tmp 6) (.tmp 27) rfl p6 (cR X3 Y3 Z3 T3) rfl rfl RT (cR X Y Z T) S103.out.cl.1 (infoR X3 Y3 Z3 T3) ((cR_size X Y Z T).trans (cR_size X3 Y3 Z3 T3).symm) (cR_one X3 Y3 Z3 T3) ?_
        intro wx hb
        have S104 : Hid (St w (wx.setRow p6 (cR X3 Y3 Z3 T3)) [(p6, cR X3 Y3 Z3 T3, RT), (p5, cT l0 m0 q0 l1 m1 q1, TT), (p4, cR 0 0 0 0, RT), (p3, sF n, ST), (p2, cP x a, PT)] []) := hid ((S103.out.on hb).put0 0 rfl)
        clear hb S103
        generalize wx.setRow p6 (cR X3 Y3 Z3 T3) = w104 at S104 ⊢
        (try simp only [Act.put, List.getElem_toArray, List.getElem_cons_succ, List.getElem_cons_zero, List.setIfInBounds_toArray, List.set_cons_zero, List.set_cons_succ])
        refine wpLA_end ?_
        intro w105 hb
        have S105 := hid (S104.out.on hb)
        clear hb S104
        go_wp2_with fail
        go_step3
        refine ⟨rfl, ⟨m, p2, p3, p4, p5, p6, X3, Y3, Z3, T3, _, _, _, _, _, _, _, _, _, _, _, _, _, _, _, _, _, _, _, _, rfl, by have := HM.out; omega, HX3.out, S105.out⟩, by show (intOf (.int .i64 ((m : Nat) : Int))).toNat < (intOf (.int .i64 ((m + 1 : Nat) : Int))).toNat; simp [intOf]⟩
      · have ht0 := ht
        obtain ⟨A_, hA_⟩ : ∃ v : FF, v = (Y2 - X2) * l1 := ⟨_, rfl⟩
        obtain ⟨B_, hB_⟩ : ∃ v : FF, v = (Y2 + X2) * m1 := ⟨_, rfl⟩
        obtain ⟨D_, hD_⟩ : ∃ v : FF, v = Z2 + Z2 := ⟨_, rfl⟩
        obtain ⟨C_, hC_⟩ : ∃ v : FF, v = T2 * q1 := ⟨_, rfl⟩
        obtain ⟨X3, hX3⟩ : ∃ v : FF, v = (B_ - A_) * (D_ - C_) := ⟨_, rfl⟩
        obtain ⟨Y3, hY3⟩ : ∃ v : FF, v = (B_ + A_) * (D_ + C_) := ⟨_, rfl⟩
        obtain ⟨Z3, hZ3⟩ : ∃ v : FF, v = (D_ + C_) * (D_ - C_) := ⟨_, rfl⟩
        obtain ⟨T3, hT3⟩ : ∃ v : FF, v = (B_ - A_) * (B_ + A_) := ⟨_, rfl⟩
        have KA := andC (X := X2) (Y := Y2) (Z := Z2) (T := T2) (l := l1) (m := m1) (p := q1) hA_ hB_ hD_ hC_ hX3 hY3 hZ3 hT3
        have E3 := ex_and E2 (Pt.add_on (Pt.times_on hp _) (Pt.times_on hp _)) hp HA1.out.1 HA1.out.2.1 HA1.out.2.2 hA_ hB_ hD_ hC_ hX3 hY3 hZ3 hT3
        have KB := bitE n m (by have := HM.out; omega) (t := 1) (by omega)
        have HX3 : Hid (Ex4 X3 Y3 Z3 T3 (Pt.times (n.val / 2 ^ m) p)) := hid (by rw [hst, tm_odd hp]; exact E3)
        clear hA_ hB_ hD_ hC_ hX3 hY3 hZ3 hT3 E2 E3 hst ht ht0 ht2 hp
        go_upto_region 4 with fail
        refine wpLA_start ?_
        refine wpLA_take (.int .i64 (((m + 1 : Nat) : Int))) (yG_val _ (by rfl) (fun w' _ => by (go_simp; try rfl))) ?_
        (try simp only [Act.put, List.getElem_toArray, List.getElem_cons_succ, List.getElem_cons_zero, List.setIfInBounds_toArray, List.set_cons_zero, List.set_cons_succ])
        refine wpLA_take (.bool false) (yG_val _ (by rfl) (fun w' _ => by (go_simp; omega))) ?_
        (try simp only [Act.put, List.getElem_toArray, List.getElem_cons_succ, List.getElem_cons_zero, List.setIfInBounds_toArray, List.set_cons_zero, List.set_cons_succ])
        refine wpLA_end ?_
        intro w101 hb
        have S101 := hid (HS.out.on hb)
        clear hb HS
        go_upto_region 6 with fail
        refine wpLA_start ?_
        refine wpLA_take (.int .i64 (((m + 1 : Nat) : Int))) (yG_val _ (by rfl) (fun w' _ => by (go_simp; try rfl))) ?_
        (try simp only [Act.put, List.getElem_toArray, List.getElem_cons_succ, List.getElem_cons_zero, List.setIfInBounds_toArray, List.set_cons_zero, List.set_cons_succ])
        refine wpLA_take (.int .i64 ((m : Nat))) (yG_val _ (by rfl) (fun w' _ => by (go_simp; exact HN2.out))) ?_
        (try simp only [Act.put, List.getElem_toArray, List.getElem_cons_succ, List.getElem_cons_zero, List.setIfInBounds_toArray, List.set_cons_zero, List.set_cons_succ])
        refine wpLA_take (.int .i64 ((m : Nat))) (yG_val _ (by rfl) (fun w' _ => by (go_simp; try rfl))) ?_
        (try simp only [Act.put, List.getElem_toArray, List.getElem_cons_succ, List.getElem_cons_zero, List.setIfInBounds_toArray, List.set_cons_zero, List.set_cons_succ])
        refine wpLA_end ?_
        intro w102 hb
        have S102 := hid (S101.out.on hb)
        clear hb S101
        go_upto_region 7 with fail
        refine wp_region_grA 8 (by kernel_rfl) (by decide) ?_
        refine wpGrA_take (i := 0) (.agg (cR X Y Z T)) rfl (by kernel_rfl) (by kernel_rfl) (fun _ _ _ h => h) (yG_part (by rfl) RT (.tmp 6) rfl p6 0 rfl RT (cR X Y Z T) (cR X Y Z T) (0, 0) _ S102.out.cl.1 (cR_all X Y Z T) Tryz.underlying107 rfl (infoR X Y Z T)) ?_
        (try simp only [Act.put, List.getElem_toArray, List.getElem_cons_succ, List.getElem_cons_zero, List.setIfInBounds_toArray, List.set_cons_zero, List.set_cons_succ])
        refine wpGrA_take (i := 1) (.agg (cR X2 Y2 Z2 T2)) rfl (by kernel_rfl) (by kernel_rfl) (fun _ _ _ h => h) (yG_call (by rfl) (fun w' => by go_simp) (fun w' hb => KT.out w')) ?_
        (try simp only [Act.put, List.getElem_toArray, List.getElem_cons_succ, List.getElem_cons_zero, List.setIfInBounds_toArray, List.set_cons_zero, List.set_cons_succ])
        refine wpGrA_take (i := 2) (.agg (sF n)) rfl (by kernel_rfl) (by kernel_rfl) (fun _ _ _ h => h) (yG_part (by rfl) ST (.tmp 3) rfl p3 0 rfl ST (sF n) (sF n) (0, 0) _ S102.out.cl.2.2.2.1 (sF_all n) Tryz.underlying62 rfl (infoSF n)) ?_
        (try simp only [Act.put, List.getElem_toArray, List.getElem_cons_succ, List.getElem_cons_zero, List.setIfInBounds_toArray, List.set_cons_zero, List.set_cons_succ])
        refine wpGrA_take (i := 3) (.int .i64 ((m : Nat))) rfl (by kernel_rfl) (by kernel_rfl) (fun _ _ _ h => h) (yG_val _ (by rfl) (fun w' _ => by (go_simp; try rfl))) ?_
        (try simp only [Act.put, List.getElem_toArray, List.getElem_cons_succ, List.getElem_cons_zero, List.setIfInBounds_toArray, List.set_cons_zero, List.set_cons_succ])
        refine wpGrA_take (i := 4) (.int .i64 1) rfl (by kernel_rfl) (by kernel_rfl) (fun _ _ _ h => h) (yG_call (by rfl) (fun w' => by go_simp) (fun w' hb => KB.out w')) ?_
        (try simp only [Act.put, List.getElem_toArray, List.getElem_cons_succ, List.getElem_cons_zero, List.setIfInBounds_toArray, List.set_cons_zero, List.set_cons_succ])
        refine wpGrA_take (i := 5) (.pointer (some ⟨p5, 12, none⟩)) rfl (by kernel_rfl) (by kernel_rfl) (fun _ _ _ h => h) (yG_val _ (by rfl) (fun w' _ => by (go_simp; try rfl))) ?_
        (try simp only [Act.put, List.getElem_toArray, List.getElem_cons_succ, List.getElem_cons_zero, List.setIfInBounds_toArray, List.set_cons_zero, List.set_cons_succ])
        refine wpGrA_take (i := 6) (.agg (cA l1 m1 q1)) rfl (by kernel_rfl) (by kernel_rfl) (fun _ _ _ h => h) (yG_part (by rfl) AT (.tmp 25) rfl p5 12 rfl TT (cT l0 m0 q0 l1 m1 q1) (cA l1 m1 q1) (0, 0) _ S102.out.cl.2.1 (cT_12 l0 m0 q0 l1 m1 q1) Tryz.underlying116 rfl (infoA l1 m1 q1)) ?_
        (try simp only [Act.put, List.getElem_toArray, List.getElem_cons_succ, List.getElem_cons_zero, List.setIfInBounds_toArray, List.set_cons_zero, List.set_cons_succ])
        refine wpGrA_take (i := 7) (.agg (cR X3 Y3 Z3 T3)) rfl (by kernel_rfl) (by kernel_rfl) (fun _ _ _ h => h) (yG_call (by rfl) (fun w' => by go_simp) (fun w' hb => KA.out w')) ?_
        (try simp only [Act.put, List.getElem_toArray, List.getElem_cons_succ, List.getElem_cons_zero, List.setIfInBounds_toArray, List.set_cons_zero, List.set_cons_succ])
        refine wpGrA_end (by kernel_rfl) ?_
        intro w103 hb
        have S103 := hid (S102.out.on hb)
        clear hb S102
        refine wpLA_here ?_
        refine wpLA_store rfl RT (.tmp 6) (.tmp 27) rfl p6 (cR X3 Y3 Z3 T3) rfl rfl RT (cR X Y Z T) S103.out.cl.1 (infoR X3 Y3 Z3 T3) ((cR_size X Y Z T).trans (cR_size X3 Y3 Z3 T3).symm) (cR_one X3 Y3 Z3 T3) ?_
        intro wx hb
        have S104 : Hid (St w (wx.setRow p6 (cR X3 Y3 Z3 T3)) [(p6, cR X3 Y3 Z3 T3, RT), (p5, cT l0 m0 q0 l1 m1 q1, TT), (p4, cR 0 0 0 0, RT), (p3, sF n, ST), (p2, cP x a, PT)] []) := hid ((S103.out.on hb).put0 0 rfl)
        clear hb S103
        generalize wx.setRow p6 (cR X3 Y3 Z3 T3) = w104 at S104 ⊢
        (try simp only [Act.put, List.getElem_toArray, List.getElem_cons_succ, List.getElem_cons_zero, List.setIfInBounds_toArray, List.set_cons_zero, List.set_cons_succ])
        refine wpLA_end ?_
        intro w105 hb
        have S105 := hid (S104.out.on hb)
        clear hb S104
        go_wp2_with fail
        go_step3
        refine ⟨rfl, ⟨m, p2, p3, p4, p5, p6, X3, Y3, Z3, T3, _, _, _, _, _, _, _, _, _, _, _, _, _, _, _, _, _, _, _, _, rfl, by have := HM.out; omega, HX3.out, S105.out⟩, by show (intOf (.int .i64 ((m : Nat) : Int))).toNat < (intOf (.int .i64 ((m + 1 : Nat) : Int))).toNat; simp [intOf]⟩
set_option maxHeartbeats 1000000 in
theorem mulC {x a : FF} {p : Pt} (hp : p.on) (hx : x = p.x) (ha : a = p.y - 1) (n : SF) (w : World) : Calls Tryz.prog 50 #[.agg (cP x a), .agg (sF n)] w fun e w' => e = .returned (.agg (cP (Pt.times n.val p).x ((Pt.times n.val p).y - 1))) ∧ Below w.heap.size w w' := by
  have KM := hid (fun W => productC' hp hx ha n W)
  clear hp hx ha
  go_enter Tryz.func50, Tryz.ntmps50
  have S0 : Hid (St w w [] []) := hid (St.start w)
  go_upto_region 0 with fail
  refine wpLA_start ?_
  refine wpLA_box (cP x a) (by rfl) rfl rfl ?_
  intro p1 w1 hp hz hb
  have S1 : Hid (St w w1 [(p1, cP x a, PT)] []) := hid (S0.out.alloc hb hp hz)
  clear hp hz hb S0
  (try simp only [Act.put, List.getElem_toArray, List.getElem_cons_succ, List.getElem_cons_zero, List.setIfInBounds_toArray, List.set_cons_zero, List.set_cons_succ])
  refine wpLA_box (sF n) (by rfl) rfl rfl ?_
  intro p2 w2 hp hz hb
  have S2 : Hid (St w w2 [(p2, sF n, ST), (p1, cP x a, PT)] []) := hid (S1.out.alloc hb hp hz)
  clear hp hz hb S1
  (try simp only [Act.put, List.getElem_toArray, List.getElem_cons_succ, List.getElem_cons_zero, List.setIfInBounds_toArray, List.set_cons_zero, List.set_cons_succ])
  refine wpLA_alloc (by rfl) rfl zeroPc ?_
  intro p3 w3 hp hz hb
  have S3 : Hid (St w w3 [(p3, cP 0 0, PT), (p2, sF n, ST), (p1, cP x a, PT)] []) := hid (S2.out.alloc hb hp hz)
  clear hp hz hb S2
  (try simp only [Act.put, List.getElem_toArray, List.getElem_cons_succ, List.getElem_cons_zero, List.setIfInBounds_toArray, List.set_cons_zero, List.set_cons_succ])
  refine wpLA_end ?_
  intro w4 hb
  have S4 := hid (S3.out.on hb)
  clear hb S3
  go_upto_region 1 with fail
  refine wpLA_start ?_
  refine wpLA_take (.agg (cP x a)) (yG_part (by rfl) PT (.tmp 2) rfl p1 0 rfl PT (cP x a) (cP x a) (0, 0) _ S4.out.cl.2.2.1 (cP_all x a) Tryz.underlying82 rfl (infoPc x a)) ?_
  (try simp only [Act.put, List.getElem_toArray, List.getElem_cons_succ, List.getElem_cons_zero, List.setIfInBounds_toArray, List.set_cons_zero, List.set_cons_succ])
  refine wpLA_take (.agg (sF n)) (yG_part (by rfl) ST (.tmp 3) rfl p2 0 rfl ST (sF n) (sF n) (0, 0) _ S4.out.cl.2.1 (sF_all n) Tryz.underlying62 rfl (infoSF n)) ?_
  (try simp only [Act.put, List.getElem_toArray, List.getElem_cons_succ, List.getElem_cons_zero, List.setIfInBounds_toArray, List.set_cons_zero, List.set_cons_succ])
  refine wpLA_call (fun w' v w'' => (∃ X Y Z T, v = .agg (cR X Y Z T) ∧ Ex4 X Y Z T (Pt.times n.val p)) ∧ Below w'.heap.size w' w'') (by rfl) (fun w' => by go_simp) (fun w' hb => (KM.out w').mono (fun e w'' ⟨X, Y, Z, T, he, hx, hb⟩ => ⟨_, he, ⟨X, Y, Z, T, rfl, hx⟩, hb⟩)) ?_
  rintro wx v w5 hb ⟨⟨X, Y, Z, T, rfl, hX⟩, hk⟩
  have S5 : Hid (St w w5 [(p3, cP 0 0, PT), (p2, sF n, ST), (p1, cP x a, PT)] []) := hid ((S4.out.on hb).on hk)
  have KPT := pointC (x := X) (y := Y) (z := Z) (t := T) (r := (Pt.times n.val p).x) (s := (Pt.times n.val p).y - 1) (ex_point hX).1.symm (by rw [(ex_point hX).2])
  clear hb hk hX S4
  (try simp only [Act.put, List.getElem_toArray, List.getElem_cons_succ, List.getElem_cons_zero, List.setIfInBounds_toArray, List.set_cons_zero, List.set_cons_succ])
  refine wpLA_take (.agg (cP (Pt.times n.val p).x ((Pt.times n.val p).y - 1))) (yG_call (by rfl) (fun w' => by go_simp) (fun w' hb => KPT.out w')) ?_
  (try simp only [Act.put, List.getElem_toArray, List.getElem_cons_succ, List.getElem_cons_zero, List.setIfInBounds_toArray, List.set_cons_zero, List.set_cons_succ])
  refine wpLA_store rfl PT (.tmp 4) (.tmp 8) rfl p3 (cP (Pt.times n.val p).x ((Pt.times n.val p).y - 1)) rfl rfl PT (cP 0 0) S5.out.cl.1 (infoPc (Pt.times n.val p).x ((Pt.times n.val p).y - 1)) ((cP_size 0 0).trans (cP_size (Pt.times n.val p).x ((Pt.times n.val p).y - 1)).symm) (cP_one (Pt.times n.val p).x ((Pt.times n.val p).y - 1)) ?_
  intro wx hb
  have S6 : Hid (St w (wx.setRow p3 (cP (Pt.times n.val p).x ((Pt.times n.val p).y - 1))) [(p3, cP (Pt.times n.val p).x ((Pt.times n.val p).y - 1), PT), (p2, sF n, ST), (p1, cP x a, PT)] []) := hid ((S5.out.on hb).put0 0 rfl)
  clear hb S5
  generalize wx.setRow p3 (cP (Pt.times n.val p).x ((Pt.times n.val p).y - 1)) = w6 at S6 ⊢
  (try simp only [Act.put, List.getElem_toArray, List.getElem_cons_succ, List.getElem_cons_zero, List.setIfInBounds_toArray, List.set_cons_zero, List.set_cons_succ])
  refine wpLA_end ?_
  intro w7 hb
  have S7 := hid (S6.out.on hb)
  clear hb S6
  go_wp2_with fail
  exact bodyPost_ret (v := .agg (cP (Pt.times n.val p).x ((Pt.times n.val p).y - 1))) (results_cell_row rfl _ _ p3 PT _ (0, 0) _ rfl S7.out.cl.1 Tryz.underlying82 rfl (infoPc (Pt.times n.val p).x ((Pt.times n.val p).y - 1))) rfl ⟨rfl, S7.out.below⟩
end Go.Proofs.YtgehfbcagaaggaaGreatDoor
end
