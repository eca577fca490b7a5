/-
  The statement CurveOf: the walk.
-/
import Derived.Test.YtealegfmmeklcaaLaw09b
namespace Go.Proofs.Ytealegfmmeklcaa
open Go Go.RowKit
set_option linter.unusedVariables false
set_option linter.unusedSimpArgs false

theorem pp_half : pp / 2 = (pp - 1) / 2 := by decide +kernel
set_option maxRecDepth 100000 in
set_option maxHeartbeats 8000000 in
theorem of9_any (A : Option Addr) (xs : List UInt8) (c : Nat) (w : World) (hS : Sq w w.heap.size A c (bvs xs)) :
    Calls Try.prog 3 #[.slice A xs.length c] w fun e w' => e = .returned (.bool true) ∧ Below w.heap.size w w' := by
  have hx := len_cap hS
  have HS := hid hS
  have HAL := hid alive9_any
  clear hS
  by_cases hx60 : 60 < xs.length
  · have hxi : (60 : Int) < (xs.length : Int) := by omega
    clear hx60 hx
    go_enter Try.func3, Try.ntmps3
    go_wp2_with fail
    refine (HAL.out _).mono ?_
    rintro e w1 ⟨rfl, hb1⟩
    go_wp2
    go_ret
    exact ⟨rfl, hb1⟩
  obtain ⟨vx, hvx, KX⟩ := CvOf xs hx
  by_cases h32 : ¬ xs.length = 32
  · have hxi : ¬ (60 : Int) < (xs.length : Int) := by omega
    have h32i : ((xs.length : Int) != 32) = true := by rw [bne_iff_ne]; omega
    have h32j : ((xs.length : Int) == 32) = false := by rw [beq_eq_false_iff_ne]; omega
    have hn := ptOf_len h32
    have hz : ptO xs = Pt.zero := by unfold ptO; rw [hn]; rfl
    rw [hz] at hvx
    rw [hn] at KX
    simp only [Option.isSome_none] at KX
    have HVX := hid hvx
    obtain ⟨vn, hvn, KN⟩ := CvNothing
    have HVN := hid hvn
    have KS := CvSameT HVX.out HVN.out rfl
    clear hx60 h32 hx hn hz hvx hvn
    go_enter Try.func3, Try.ntmps3
    go_wp2_with fail
    refine (HAL.out _).mono ?_
    rintro e w0 ⟨rfl, hb⟩
    have S0 : Hid (St w w0 [] []) := hid ((St.start w).on hb)
    clear hb
    go_upto_region 3 with fail
    refine wpLA_start ?_
    refine wpLA_take (.slice A (xs.length) c) (yG_val _ (by rfl) (fun w' _ => by (go_simp; try rfl))) ?_
    (try simp only [Act.put, List.getElem_toArray, List.getElem_cons_succ, List.getElem_cons_zero, List.setIfInBounds_toArray, List.set_cons_zero, List.set_cons_succ])
    refine wpLA_take (.int .i64 ((xs.length : Nat))) (yG_val _ (by rfl) (fun w' _ => by (go_simp; try rfl))) ?_
    (try simp only [Act.put, List.getElem_toArray, List.getElem_cons_succ, List.getElem_cons_zero, List.setIfInBounds_toArray, List.set_cons_zero, List.set_cons_succ])
    refine wpLA_take (.bool false) (yG_val _ (by rfl) (fun w' _ => by (go_simp; try rfl))) ?_
    (try simp only [Act.put, List.getElem_toArray, List.getElem_cons_succ, List.getElem_cons_zero, List.setIfInBounds_toArray, List.set_cons_zero, List.set_cons_succ])
    refine wpLA_end ?_
    intro w1 hb
    have S1 := hid (S0.out.on hb)
    clear hb S0
    go_upto_region 5 with fail
    refine wpLA_start ?_
    refine wpLA_take (.slice A (xs.length) c) (yG_val _ (by rfl) (fun w' _ => by (go_simp; try rfl))) ?_
    (try simp only [Act.put, List.getElem_toArray, List.getElem_cons_succ, List.getElem_cons_zero, List.setIfInBounds_toArray, List.set_cons_zero, List.set_cons_succ])
    refine wpLA_take (.tuple #[(.agg (vx)), (.bool false)]) (yG_call (by rfl) (fun w' => by go_simp) (fun w' hb => KX.out _ _ w' (HS.out.on6 ((S1.out.on hb).below)))) ?_
    (try simp only [Act.put, List.getElem_toArray, List.getElem_cons_succ, List.getElem_cons_zero, List.setIfInBounds_toArray, List.set_cons_zero, List.set_cons_succ])
    refine wpLA_take (.tuple #[(.agg (vx)), (.bool false)]) (yG_val _ (by rfl) (fun w' _ => by (go_simp; try rfl))) ?_
    (try simp only [Act.put, List.getElem_toArray, List.getElem_cons_succ, List.getElem_cons_zero, List.setIfInBounds_toArray, List.set_cons_zero, List.set_cons_succ])
    refine wpLA_take (.agg (vx)) (yG_val _ (by rfl) (fun w' _ => by (go_simp; try rfl))) ?_
    (try simp only [Act.put, List.getElem_toArray, List.getElem_cons_succ, List.getElem_cons_zero, List.setIfInBounds_toArray, List.set_cons_zero, List.set_cons_succ])
    refine wpLA_take (.bool false) (yG_val _ (by rfl) (fun w' _ => by (go_simp; try rfl))) ?_
    (try simp only [Act.put, List.getElem_toArray, List.getElem_cons_succ, List.getElem_cons_zero, List.setIfInBounds_toArray, List.set_cons_zero, List.set_cons_succ])
    refine wpLA_alloc (by rfl) rfl zeroP ?_
    intro p2 w2 hp hz hb
    have S2 : Hid (St w w2 [(p2, zP, PT)] []) := hid (S1.out.alloc hb hp hz)
    clear hp hz hb S1
    (try simp only [Act.put, List.getElem_toArray, List.getElem_cons_succ, List.getElem_cons_zero, List.setIfInBounds_toArray, List.set_cons_zero, List.set_cons_succ])
    refine wpLA_store rfl PT (.tmp 3) (.tmp 20) rfl p2 (vx) rfl rfl PT (zP) S2.out.cl.1 HVX.out.info (zP_is.size2 HVX.out) HVX.out.one ?_
    intro wx hb
    have S3 : Hid (St w (wx.setRow p2 (vx)) [(p2, vx, PT)] []) := hid ((S2.out.on hb).put0 0 rfl)
    clear hb S2
    generalize wx.setRow p2 (vx) = w3 at S3 ⊢
    (try simp only [Act.put, List.getElem_toArray, List.getElem_cons_succ, List.getElem_cons_zero, List.setIfInBounds_toArray, List.set_cons_zero, List.set_cons_succ])
    refine wpLA_take (.bool false) (yG_val _ (by rfl) (fun w' _ => by (go_simp; try rfl))) ?_
    (try simp only [Act.put, List.getElem_toArray, List.getElem_cons_succ, List.getElem_cons_zero, List.setIfInBounds_toArray, List.set_cons_zero, List.set_cons_succ])
    refine wpLA_end ?_
    intro w4 hb
    have S4 := hid (S3.out.on hb)
    clear hb S3
    go_upto_region 6 with fail
    refine wpLA_start ?_
    refine wpLA_take (.slice A (xs.length) c) (yG_val _ (by rfl) (fun w' _ => by (go_simp; try rfl))) ?_
    (try simp only [Act.put, List.getElem_toArray, List.getElem_cons_succ, List.getElem_cons_zero, List.setIfInBounds_toArray, List.set_cons_zero, List.set_cons_succ])
    refine wpLA_take (.int .i64 ((xs.length : Nat))) (yG_val _ (by rfl) (fun w' _ => by (go_simp; try rfl))) ?_
    (try simp only [Act.put, List.getElem_toArray, List.getElem_cons_succ, List.getElem_cons_zero, List.setIfInBounds_toArray, List.set_cons_zero, List.set_cons_succ])
    refine wpLA_take (.bool true) (yG_val _ (by rfl) (fun w' _ => by (go_simp; try rfl))) ?_
    (try simp only [Act.put, List.getElem_toArray, List.getElem_cons_succ, List.getElem_cons_zero, List.setIfInBounds_toArray, List.set_cons_zero, List.set_cons_succ])
    refine wpLA_end ?_
    intro w5 hb
    have S5 := hid (S4.out.on hb)
    clear hb S4
    go_upto_region 7 with fail
    refine wp_region_grA 7 (by kernel_rfl) (by decide) ?_
    refine wpGrA_take (i := 0) (.bool false) rfl (by kernel_rfl) (by kernel_rfl) (fun _ _ _ h => h) (yG_val _ (by rfl) (fun w' _ => by (go_simp; try rfl))) ?_
    (try simp only [Act.put, List.getElem_toArray, List.getElem_cons_succ, List.getElem_cons_zero, List.setIfInBounds_toArray, List.set_cons_zero, List.set_cons_succ])
    refine wpGrA_take (i := 1) (.bool true) rfl (by kernel_rfl) (by kernel_rfl) (fun _ _ _ h => h) (yG_val _ (by rfl) (fun w' _ => by (go_simp; try rfl))) ?_
    (try simp only [Act.put, List.getElem_toArray, List.getElem_cons_succ, List.getElem_cons_zero, List.setIfInBounds_toArray, List.set_cons_zero, List.set_cons_succ])
    refine wpGrA_take (i := 2) (.bool true) rfl (by kernel_rfl) (by kernel_rfl) (fun _ _ _ h => h) (yG_val _ (by rfl) (fun w' _ => by (go_simp; try rfl))) ?_
    (try simp only [Act.put, List.getElem_toArray, List.getElem_cons_succ, List.getElem_cons_zero, List.setIfInBounds_toArray, List.set_cons_zero, List.set_cons_succ])
    refine wpGrA_take (i := 3) (.agg (vx)) rfl (by kernel_rfl) (by kernel_rfl) (fun _ _ _ h => h) (yG_part (by rfl) PT (.tmp 3) rfl p2 0 rfl PT (vx) (vx) (0, 0) _ S5.out.cl.1 HVX.out.all Try.underlying28 rfl HVX.out.info) ?_
    (try simp only [Act.put, List.getElem_toArray, List.getElem_cons_succ, List.getElem_cons_zero, List.setIfInBounds_toArray, List.set_cons_zero, List.set_cons_succ])
    refine wpGrA_take (i := 4) (.agg (vn)) rfl (by kernel_rfl) (by kernel_rfl) (fun _ _ _ h => h) (yG_call (by rfl) (fun w' => by go_simp) (fun w' hb => KN.out w')) ?_
    (try simp only [Act.put, List.getElem_toArray, List.getElem_cons_succ, List.getElem_cons_zero, List.setIfInBounds_toArray, List.set_cons_zero, List.set_cons_succ])
    refine wpGrA_take (i := 5) (.bool true) rfl (by kernel_rfl) (by kernel_rfl) (fun _ _ _ h => h) (yG_call (by rfl) (fun w' => by go_simp) (fun w' hb => KS.out w')) ?_
    (try simp only [Act.put, List.getElem_toArray, List.getElem_cons_succ, List.getElem_cons_zero, List.setIfInBounds_toArray, List.set_cons_zero, List.set_cons_succ])
    refine wpGrA_take (i := 6) (.bool true) rfl (by kernel_rfl) (by kernel_rfl) (fun _ _ _ h => h) (yG_val _ (by rfl) (fun w' _ => by (go_simp; try rfl))) ?_
    (try simp only [Act.put, List.getElem_toArray, List.getElem_cons_succ, List.getElem_cons_zero, List.setIfInBounds_toArray, List.set_cons_zero, List.set_cons_succ])
    refine wpGrA_end (by kernel_rfl) ?_
    intro w6 hb
    have S6 := hid (S5.out.on hb)
    clear hb S5
    refine wpLA_here ?_
    refine wpLA_take (.bool true) (yG_val _ (by rfl) (fun w' _ => by (go_simp; try rfl))) ?_
    (try simp only [Act.put, List.getElem_toArray, List.getElem_cons_succ, List.getElem_cons_zero, List.setIfInBounds_toArray, List.set_cons_zero, List.set_cons_succ])
    refine wpLA_end ?_
    intro w7 hb
    have S7 := hid (S6.out.on hb)
    clear hb S6
    go_wp2_with fail
    go_ret
    exact ⟨rfl, S7.out.below⟩
  have h32 : xs.length = 32 := by omega
  obtain ⟨a, z, ha, hxa⟩ := split32 h32
  have hz := z.toNat_lt
  obtain ⟨y', hy'⟩ : ∃ y' : UInt8, y' = UInt8.ofNat (z.toNat % 128) := ⟨_, rfl⟩
  have hyv : y'.toNat = z.toNat % 128 := by rw [hy', UInt8.toNat_ofNat']; omega
  have hlow : leN (a ++ [y']) = lowY xs := by rw [hy', low_num ha, hxa]
  have hr1 : ((z.toNat : Int)).tmod 128 = (y'.toNat : Int) := by rw [Int.tmod_eq_emod_of_nonneg (by omega)]; omega
  have hr2 : (z.toNat : Int) % 128 = (y'.toNat : Int) := by omega
  have hr3 : IntKind.u8.wrap (y'.toNat : Int) = (y'.toNat : Int) := by rw [IntKind.wrap_u8]; omega
  have hlb : (bvs (a ++ [z])).length = 32 := by simp [ha]
  have KOF : Hid (∀ A c W, Sq W W.heap.size A c (bvs (a ++ [y'])) → Calls Try.prog 11 #[.slice A 32 c] W (BigR W (lowY xs))) := hid fun A c W h => by
    have h2 := Of6_any A (a ++ [y']) c W h (by simp [ha])
    rw [show (a ++ [y']).length = 32 by simp [ha], hlow] at h2
    exact h2
  obtain ⟨Pn, hPn⟩ : ∃ n, n = pp := ⟨_, rfl⟩
  have KP : Hid (∀ W, Calls Try.prog 13 #[] W (BigR W Pn)) := hid fun W => by rw [hPn]; exact P_any W
  have KN : ∀ n : Nat, n < 18446744073709551616 → Hid (∀ W, Calls Try.prog 15 #[.int .u64 (n : Int)] W (BigR W n)) := fun n h => hid fun W => Num_any n W h
  have K2 := KN 2 (by omega)
  have K1 := KN 1 (by omega)
  have hYl : (dg (lowY xs)).length ≤ 1000 := (dg_length_le _ 1000).2 (Nat.lt_trans (Nat.mod_lt _ (by decide +kernel)) (by decide +kernel))
  have KL : Hid (∀ A A2 c c2 W, Sq W W.heap.size A c (ivs (dg (lowY xs))) → Sq W W.heap.size A2 c2 (ivs (dg Pn)) → Calls Try.prog 12 #[.slice A (dg (lowY xs)).length c, .slice A2 (dg Pn).length c2] W fun e w1 => e = .returned (.bool (decide (lowY xs < Pn))) ∧ Below W.heap.size W w1) := hid fun A A2 c c2 W h h2 => calls_drew (Less_any (lowY xs) Pn A A2 c c2 _ _ W h h2 (by omega))
  obtain ⟨bk, bo, hAe, hbk, hcell⟩ := HS.out.lie.byte (k := 31) (by omega)
  have h31 : xs[31] = z := by simp only [hxa]; rw [List.getElem_append_right (by omega)]; simp [ha]
  rw [h31] at hcell
  subst hAe
  have HCELL := hid hcell; have HBK := hid hbk; have HLB := hid hlb; have HA := hid ha; have HXA := hid hxa; have HXL := hid h32
  rw [h32] at KX
  rw [h32]
  clear hx60 h32 hx hy' hyv hlow hlb hcell hbk h31 hz
  by_cases hY : ¬ lowY xs < pp
  · have hn : ptOf xs = none := by rw [hxa]; exact ptOf_far ha (by rw [← hxa]; exact hY)
    rw [hn] at KX
    simp only [Option.isSome_none] at KX
    have HVX := hid hvx
    have hd : decide (lowY xs < Pn) = false := by rw [hPn]; exact decide_eq_false hY
    rw [hd] at KL
    generalize lowY xs = Y at *
    clear hd hn hY hvx hPn hxa ha KN
    go_enter Try.func3, Try.ntmps3
    go_wp2_with fail
    refine (HAL.out _).mono ?_
    rintro e w0 ⟨rfl, hb⟩
    have S0 : Hid (St w w0 [] []) := hid ((St.start w).on hb)
    clear hb
    go_upto_region 3 with fail
    refine wpLA_start ?_
    refine wpLA_take (.slice (some ⟨bk, bo, none⟩) 32 c) (yG_val _ (by rfl) (fun w' _ => by (go_simp; try rfl))) ?_
    (try simp only [Act.put, List.getElem_toArray, List.getElem_cons_succ, List.getElem_cons_zero, List.setIfInBounds_toArray, List.set_cons_zero, List.set_cons_succ])
    refine wpLA_take (.int .i64 32) (yG_val _ (by rfl) (fun w' _ => by (go_simp; try rfl))) ?_
    (try simp only [Act.put, List.getElem_toArray, List.getElem_cons_succ, List.getElem_cons_zero, List.setIfInBounds_toArray, List.set_cons_zero, List.set_cons_succ])
    refine wpLA_take (.bool false) (yG_val _ (by rfl) (fun w' _ => by (go_simp; try rfl))) ?_
    (try simp only [Act.put, List.getElem_toArray, List.getElem_cons_succ, List.getElem_cons_zero, List.setIfInBounds_toArray, List.set_cons_zero, List.set_cons_succ])
    refine wpLA_end ?_
    intro w1 hb
    have S1 := hid (S0.out.on hb)
    clear hb S0
    go_upto_region 5 with fail
    refine wpLA_start ?_
    refine wpLA_take (.slice (some ⟨bk, bo, none⟩) 32 c) (yG_val _ (by rfl) (fun w' _ => by (go_simp; try rfl))) ?_
    (try simp only [Act.put, List.getElem_toArray, List.getElem_cons_succ, List.getElem_cons_zero, List.setIfInBounds_toArray, List.set_cons_zero, List.set_cons_succ])
    refine wpLA_take (.tuple #[(.agg (vx)), (.bool false)]) (yG_call (by rfl) (fun w' => by go_simp) (fun w' hb => KX.out _ _ w' (HS.out.on6 ((S1.out.on hb).below)))) ?_
    (try simp only [Act.put, List.getElem_toArray, List.getElem_cons_succ, List.getElem_cons_zero, List.setIfInBounds_toArray, List.set_cons_zero, List.set_cons_succ])
    refine wpLA_take (.tuple #[(.agg (vx)), (.bool false)]) (yG_val _ (by rfl) (fun w' _ => by (go_simp; try rfl))) ?_
    (try simp only [Act.put, List.getElem_toArray, List.getElem_cons_succ, List.getElem_cons_zero, List.setIfInBounds_toArray, List.set_cons_zero, List.set_cons_succ])
    refine wpLA_take (.agg (vx)) (yG_val _ (by rfl) (fun w' _ => by (go_simp; try rfl))) ?_
    (try simp only [Act.put, List.getElem_toArray, List.getElem_cons_succ, List.getElem_cons_zero, List.setIfInBounds_toArray, List.set_cons_zero, List.set_cons_succ])
    refine wpLA_take (.bool false) (yG_val _ (by rfl) (fun w' _ => by (go_simp; try rfl))) ?_
    (try simp only [Act.put, List.getElem_toArray, List.getElem_cons_succ, List.getElem_cons_zero, List.setIfInBounds_toArray, List.set_cons_zero, List.set_cons_succ])
    refine wpLA_alloc (by rfl) rfl zeroP ?_
    intro p2 w2 hp hz hb
    have S2 : Hid (St w w2 [(p2, zP, PT)] []) := hid (S1.out.alloc hb hp hz)
    clear hp hz hb S1
    (try simp only [Act.put, List.getElem_toArray, List.getElem_cons_succ, List.getElem_cons_zero, List.setIfInBounds_toArray, List.set_cons_zero, List.set_cons_succ])
    refine wpLA_store rfl PT (.tmp 3) (.tmp 20) rfl p2 (vx) rfl rfl PT (zP) S2.out.cl.1 HVX.out.info (zP_is.size2 HVX.out) HVX.out.one ?_
    intro wx hb
    have S3 : Hid (St w (wx.setRow p2 (vx)) [(p2, vx, PT)] []) := hid ((S2.out.on hb).put0 0 rfl)
    clear hb S2
    generalize wx.setRow p2 (vx) = w3 at S3 ⊢
    (try simp only [Act.put, List.getElem_toArray, List.getElem_cons_succ, List.getElem_cons_zero, List.setIfInBounds_toArray, List.set_cons_zero, List.set_cons_succ])
    refine wpLA_take (.bool false) (yG_val _ (by rfl) (fun w' _ => by (go_simp; try rfl))) ?_
    (try simp only [Act.put, List.getElem_toArray, List.getElem_cons_succ, List.getElem_cons_zero, List.setIfInBounds_toArray, List.set_cons_zero, List.set_cons_succ])
    refine wpLA_end ?_
    intro w4 hb
    have S4 := hid (S3.out.on hb)
    clear hb S3
    go_upto_region 6 with fail
    refine wpLA_start ?_
    refine wpLA_take (.slice (some ⟨bk, bo, none⟩) 32 c) (yG_val _ (by rfl) (fun w' _ => by (go_simp; try rfl))) ?_
    (try simp only [Act.put, List.getElem_toArray, List.getElem_cons_succ, List.getElem_cons_zero, List.setIfInBounds_toArray, List.set_cons_zero, List.set_cons_succ])
    refine wpLA_take (.int .i64 32) (yG_val _ (by rfl) (fun w' _ => by (go_simp; try rfl))) ?_
    (try simp only [Act.put, List.getElem_toArray, List.getElem_cons_succ, List.getElem_cons_zero, List.setIfInBounds_toArray, List.set_cons_zero, List.set_cons_succ])
    refine wpLA_take (.bool false) (yG_val _ (by rfl) (fun w' _ => by (go_simp; try rfl))) ?_
    (try simp only [Act.put, List.getElem_toArray, List.getElem_cons_succ, List.getElem_cons_zero, List.setIfInBounds_toArray, List.set_cons_zero, List.set_cons_succ])
    refine wpLA_end ?_
    intro w5 hb
    have S5 := hid (S4.out.on hb)
    clear hb S4
    go_wp2_with (at_builtin; refine wpList_append_lie rfl _ _ 22 rfl w5.heap.size 5 (.int .u8 0) 1 Try.underlying22 infoU8 rfl rfl (erow6 _ _ (k := w5.heap.size) rfl (Nat.le_refl _)) HLB.out rfl ((by rw [← HXA.out]; exact (HS.out.on6 S5.out.below).lie : Lie w5 w5.heap.size (some ⟨bk, bo, none⟩) (bvs (a ++ [z]))).alloc (Nat.le_refl _) _) (bvs_one _) ?d1 ?d2 ?d3 ?_)
    case d1 => unfold maxLen; omega
    case d2 => omega
    case d3 => simp
    intro v1 u1 hown1 hg1 hat1
    obtain ⟨g, cl, rfl, hBg, hnc, hc31, hf31, hsq⟩ := low_row y' HA.out hown1
    have hnc1 : (32 : Int) ≤ (cl : Int) := by omega
    have hb2 : Below w5.heap.size w5 (u1.setCell ⟨g, 31, none⟩ (.int .u8 (y'.toNat : Int))) := (((Below.refl _ _).alloc (Nat.le_refl _) _).grown hg1 (by simp) (by intro q hq; simp [Value.ownBlock] at hq; omega)).setCell (p := ⟨g, 31, none⟩) (by simp; omega) _
    have S50 : Hid (St w (u1.setCell ⟨g, 31, none⟩ (.int .u8 (y'.toNat : Int))) [(p2, vx, PT)] [((some ⟨g, 0, none⟩), cl, bvs (a ++ [y']))]) := hid ((S5.out.on hb2).more hsq)
    clear hsq hb2 hown1 hg1 hat1 hBg S5
    go_upto_region 10 with fail
    generalize u1.setCell ⟨g, 31, none⟩ (.int .u8 (y'.toNat : Int)) = u2 at S50 ⊢
    clear hc31 hf31 hnc hnc1 hr1 hr2 hr3
    refine wpLA_start ?_
    refine wpLA_take (.slice (some ⟨g, 0, none⟩) 32 cl) (yG_val _ (by rfl) (fun w' _ => by (go_simp; try rfl))) ?_
    (try simp only [Act.put, List.getElem_toArray, List.getElem_cons_succ, List.getElem_cons_zero, List.setIfInBounds_toArray, List.set_cons_zero, List.set_cons_succ])
    refine wpLA_big (Y) (by rfl) (fun w' => by go_simp) (fun w' hb => KOF.out _ _ w' (S50.out.on hb).sq.1) ?_
    intro A61 c61 w61 hb hs
    have S61 : Hid (St w w61 [(p2, vx, PT)] [(A61, c61, ivs (dg (Y))), ((some ⟨g, 0, none⟩), cl, bvs (a ++ [y']))]) := hid ((S50.out.on hb).more hs)
    clear hb hs S50
    (try simp only [Act.put, List.getElem_toArray, List.getElem_cons_succ, List.getElem_cons_zero, List.setIfInBounds_toArray, List.set_cons_zero, List.set_cons_succ])
    refine wpLA_take (.slice A61 ((dg (Y)).length) c61) (yG_val _ (by rfl) (fun w' _ => by (go_simp; try rfl))) ?_
    (try simp only [Act.put, List.getElem_toArray, List.getElem_cons_succ, List.getElem_cons_zero, List.setIfInBounds_toArray, List.set_cons_zero, List.set_cons_succ])
    refine wpLA_end ?_
    intro w62 hb
    have S62 := hid (S61.out.on hb)
    clear hb S61
    go_upto_region 11 with fail
    refine wpLA_start ?_
    refine wpLA_take (.slice A61 ((dg (Y)).length) c61) (yG_val _ (by rfl) (fun w' _ => by (go_simp; try rfl))) ?_
    (try simp only [Act.put, List.getElem_toArray, List.getElem_cons_succ, List.getElem_cons_zero, List.setIfInBounds_toArray, List.set_cons_zero, List.set_cons_succ])
    refine wpLA_big (Pn) (by rfl) (fun w' => by go_simp) (fun w' hb => KP.out w') ?_
    intro A63 c63 w63 hb hs
    have S63 : Hid (St w w63 [(p2, vx, PT)] [(A63, c63, ivs (dg (Pn))), (A61, c61, ivs (dg (Y))), ((some ⟨g, 0, none⟩), cl, bvs (a ++ [y']))]) := hid ((S62.out.on hb).more hs)
    clear hb hs S62
    (try simp only [Act.put, List.getElem_toArray, List.getElem_cons_succ, List.getElem_cons_zero, List.setIfInBounds_toArray, List.set_cons_zero, List.set_cons_succ])
    refine wpLA_take (.bool false) (yG_call (by rfl) (fun w' => by go_simp) (fun w' hb => KL.out _ _ _ _ w' (S63.out.on hb).sq.2.1 (S63.out.on hb).sq.1)) ?_
    (try simp only [Act.put, List.getElem_toArray, List.getElem_cons_succ, List.getElem_cons_zero, List.setIfInBounds_toArray, List.set_cons_zero, List.set_cons_succ])
    refine wpLA_take (.bool true) (yG_val _ (by rfl) (fun w' _ => by (go_simp; try rfl))) ?_
    (try simp only [Act.put, List.getElem_toArray, List.getElem_cons_succ, List.getElem_cons_zero, List.setIfInBounds_toArray, List.set_cons_zero, List.set_cons_succ])
    refine wpLA_end ?_
    intro w64 hb
    have S64 := hid (S63.out.on hb)
    clear hb S63
    go_upto_region 12 with fail
    refine wpLA_start ?_
    refine wpLA_take (.bool false) (yG_val _ (by rfl) (fun w' _ => by (go_simp; try rfl))) ?_
    (try simp only [Act.put, List.getElem_toArray, List.getElem_cons_succ, List.getElem_cons_zero, List.setIfInBounds_toArray, List.set_cons_zero, List.set_cons_succ])
    refine wpLA_take (.bool true) (yG_val _ (by rfl) (fun w' _ => by (go_simp; try rfl))) ?_
    (try simp only [Act.put, List.getElem_toArray, List.getElem_cons_succ, List.getElem_cons_zero, List.setIfInBounds_toArray, List.set_cons_zero, List.set_cons_succ])
    refine wpLA_take (.bool true) (yG_val _ (by rfl) (fun w' _ => by (go_simp; try rfl))) ?_
    (try simp only [Act.put, List.getElem_toArray, List.getElem_cons_succ, List.getElem_cons_zero, List.setIfInBounds_toArray, List.set_cons_zero, List.set_cons_succ])
    refine wpLA_end ?_
    intro w65 hb
    have S65 := hid (S64.out.on hb)
    clear hb S64
    go_wp2_with fail
    go_ret
    exact ⟨rfl, S65.out.below⟩
  have hY : lowY xs < pp := by omega
  have hd : decide (lowY xs < Pn) = true := by rw [hPn]; exact decide_eq_true hY
  rw [hd] at KL
  clear hd
  obtain ⟨y, hy⟩ : ∃ y : FF, y.val = lowY xs := ⟨⟨lowY xs, hY⟩, rfl⟩
  have hw := ptOf_want ha (y := y) (by rw [← hxa]; exact hy)
  rw [← hxa] at hw
  rw [← hy] at KOF KL
  clear hy hY
  obtain ⟨s, hs⟩ : ∃ s, s = sqX y := ⟨_, rfl⟩
  rw [← hs] at hw
  have KSQ : Hid (∀ A c W, Sq W W.heap.size A c (ivs (dg y.val)) → Calls Try.prog 16 #[.slice A (dg y.val).length c] W (BigR W s.val)) := hid fun A c W h => by rw [hs]; exact Square9_any y A c W h
  obtain ⟨e2, he2⟩ : ∃ n, n = Pn / 2 := ⟨_, rfl⟩
  obtain ⟨r2, hr2x⟩ : ∃ n, n = Pn % 2 := ⟨_, rfl⟩
  have hPl : (dg Pn).length ≤ 1000 := by rw [hPn]; exact (dg_length_le pp 1000).2 (by decide +kernel)
  have KD2 : Hid (∀ A A2 c c2 W, Sq W W.heap.size A c (ivs (dg Pn)) → Sq W W.heap.size A2 c2 (ivs (dg 2)) → Calls Try.prog 14 #[.slice A (dg Pn).length c, .slice A2 (dg 2).length c2] W fun e w1 => ∃ A1 c1 A3 c3, e = .returned (.tuple #[.slice A1 (dg e2).length c1, .slice A3 (dg r2).length c3]) ∧ Sq w1 w1.heap.size A1 c1 (ivs (dg e2)) ∧ Sq w1 w1.heap.size A3 c3 (ivs (dg r2)) ∧ Below W.heap.size W w1) := hid fun A A2 c c2 W h h2 => by
    rw [he2, hr2x]; exact Div_any Pn 2 A A2 c c2 W h h2 (by omega) (by have := (dg_length_le 2 1000).2 (by decide +kernel); omega) (by omega)
  obtain ⟨B2, hB2⟩ : ∃ b, b = leB 32 e2 := ⟨_, rfl⟩
  have hB2l : B2.length = 32 := by rw [hB2, leB_length]
  have hB2n : leN B2 = (pp - 1) / 2 := by rw [hB2, leN_leB, he2, hPn]; decide +kernel
  have KB2 : Hid (∀ A c W, Sq W W.heap.size A c (ivs (dg e2)) → Calls Try.prog 18 #[.slice A (dg e2).length c, .int .i64 32] W fun e w1 => ∃ v, e = .returned v ∧ OwnB w1 W.heap.size v B2 ∧ Below W.heap.size W w1) := hid fun A c W h => by rw [hB2]; exact Bytes6_any e2 32 A c W h (by rw [he2, hPn]; decide +kernel) (by omega)
  obtain ⟨hv, hhv⟩ : ∃ n, n = half s.val := ⟨_, rfl⟩
  have KW : Hid (∀ A A2 c c2 W, Sq W W.heap.size A c (ivs (dg s.val)) → Sq W W.heap.size A2 c2 (bvs B2) → Calls Try.prog 17 #[.slice A (dg s.val).length c, .slice A2 B2.length c2] W (BigR W hv)) := hid fun A A2 c c2 W h h2 => by
    have h3 := Pow6_any s.val A c A2 B2 c2 W h h2 s.isLt (by omega)
    rw [hB2n] at h3
    rw [hhv]; exact h3
  have hvl : hv < pp := by rw [hhv]; exact Nat.mod_lt _ pp_pos
  have KSm : Hid (∀ A A2 c c2 W, Sq W W.heap.size A c (ivs (dg hv)) → Sq W W.heap.size A2 c2 (ivs (dg 1)) → Calls Try.prog 19 #[.slice A (dg hv).length c, .slice A2 (dg 1).length c2] W fun e w1 => e = .returned (.bool (decide (hv = 1))) ∧ Below W.heap.size W w1) := hid fun A A2 c c2 W h h2 => calls_drew (Same6_any hv 1 A A2 c c2 _ _ W h h2 (Nat.lt_trans hvl (by decide +kernel)) (by decide +kernel))
  unfold wantP at hw
  rw [← hhv] at hw
  have HB2L := hid hB2l
  clear hs he2 hr2x hPl hB2 hB2l hB2n hhv hvl hPn KN hxa ha
  obtain ⟨bx, hbx⟩ : ∃ b, b = (ptOf xs).isSome := ⟨_, rfl⟩
  rw [← hbx] at hw KX
  have HBX := hid hbx
  have HVX := hid hvx
  clear hbx hvx
  go_enter Try.func3, Try.ntmps3
  go_wp2_with fail
  refine (HAL.out _).mono ?_
  rintro e w0 ⟨rfl, hb⟩
  have S0 : Hid (St w w0 [] []) := hid ((St.start w).on hb)
  clear hb
  go_upto_region 3 with fail
  refine wpLA_start ?_
  refine wpLA_take (.slice (some ⟨bk, bo, none⟩) 32 c) (yG_val _ (by rfl) (fun w' _ => by (go_simp; try rfl))) ?_
  (try simp only [Act.put, List.getElem_toArray, List.getElem_cons_succ, List.getElem_cons_zero, List.setIfInBounds_toArray, List.set_cons_zero, List.set_cons_succ])
  refine wpLA_take (.int .i64 32) (yG_val _ (by rfl) (fun w' _ => by (go_simp; try rfl))) ?_
  (try simp only [Act.put, List.getElem_toArray, List.getElem_cons_succ, List.getElem_cons_zero, List.setIfInBounds_toArray, List.set_cons_zero, List.set_cons_succ])
  refine wpLA_take (.bool false) (yG_val _ (by rfl) (fun w' _ => by (go_simp; try rfl))) ?_
  (try simp only [Act.put, List.getElem_toArray, List.getElem_cons_succ, List.getElem_cons_zero, List.setIfInBounds_toArray, List.set_cons_zero, List.set_cons_succ])
  refine wpLA_end ?_
  intro w1 hb
  have S1 := hid (S0.out.on hb)
  clear hb S0
  go_upto_region 5 with fail
  refine wpLA_start ?_
  refine wpLA_take (.slice (some ⟨bk, bo, none⟩) 32 c) (yG_val _ (by rfl) (fun w' _ => by (go_simp; try rfl))) ?_
  (try simp only [Act.put, List.getElem_toArray, List.getElem_cons_succ, List.getElem_cons_zero, List.setIfInBounds_toArray, List.set_cons_zero, List.set_cons_succ])
  refine wpLA_take (.tuple #[(.agg (vx)), (.bool bx)]) (yG_call (by rfl) (fun w' => by go_simp) (fun w' hb => KX.out _ _ w' (HS.out.on6 ((S1.out.on hb).below)))) ?_
  (try simp only [Act.put, List.getElem_toArray, List.getElem_cons_succ, List.getElem_cons_zero, List.setIfInBounds_toArray, List.set_cons_zero, List.set_cons_succ])
  refine wpLA_take (.tuple #[(.agg (vx)), (.bool bx)]) (yG_val _ (by rfl) (fun w' _ => by (go_simp; try rfl))) ?_
  (try simp only [Act.put, List.getElem_toArray, List.getElem_cons_succ, List.getElem_cons_zero, List.setIfInBounds_toArray, List.set_cons_zero, List.set_cons_succ])
  refine wpLA_take (.agg (vx)) (yG_val _ (by rfl) (fun w' _ => by (go_simp; try rfl))) ?_
  (try simp only [Act.put, List.getElem_toArray, List.getElem_cons_succ, List.getElem_cons_zero, List.setIfInBounds_toArray, List.set_cons_zero, List.set_cons_succ])
  refine wpLA_take (.bool bx) (yG_val _ (by rfl) (fun w' _ => by (go_simp; try rfl))) ?_
  (try simp only [Act.put, List.getElem_toArray, List.getElem_cons_succ, List.getElem_cons_zero, List.setIfInBounds_toArray, List.set_cons_zero, List.set_cons_succ])
  refine wpLA_alloc (by rfl) rfl zeroP ?_
  intro p2 w2 hp hz hb
  have S2 : Hid (St w w2 [(p2, zP, PT)] []) := hid (S1.out.alloc hb hp hz)
  clear hp hz hb S1
  (try simp only [Act.put, List.getElem_toArray, List.getElem_cons_succ, List.getElem_cons_zero, List.setIfInBounds_toArray, List.set_cons_zero, List.set_cons_succ])
  refine wpLA_store rfl PT (.tmp 3) (.tmp 20) rfl p2 (vx) rfl rfl PT (zP) S2.out.cl.1 HVX.out.info (zP_is.size2 HVX.out) HVX.out.one ?_
  intro wx hb
  have S3 : Hid (St w (wx.setRow p2 (vx)) [(p2, vx, PT)] []) := hid ((S2.out.on hb).put0 0 rfl)
  clear hb S2
  generalize wx.setRow p2 (vx) = w3 at S3 ⊢
  (try simp only [Act.put, List.getElem_toArray, List.getElem_cons_succ, List.getElem_cons_zero, List.setIfInBounds_toArray, List.set_cons_zero, List.set_cons_succ])
  refine wpLA_take (.bool bx) (yG_val _ (by rfl) (fun w' _ => by (go_simp; try rfl))) ?_
  (try simp only [Act.put, List.getElem_toArray, List.getElem_cons_succ, List.getElem_cons_zero, List.setIfInBounds_toArray, List.set_cons_zero, List.set_cons_succ])
  refine wpLA_end ?_
  intro w4 hb
  have S4 := hid (S3.out.on hb)
  clear hb S3
  go_upto_region 6 with fail
  refine wpLA_start ?_
  refine wpLA_take (.slice (some ⟨bk, bo, none⟩) 32 c) (yG_val _ (by rfl) (fun w' _ => by (go_simp; try rfl))) ?_
  (try simp only [Act.put, List.getElem_toArray, List.getElem_cons_succ, List.getElem_cons_zero, List.setIfInBounds_toArray, List.set_cons_zero, List.set_cons_succ])
  refine wpLA_take (.int .i64 32) (yG_val _ (by rfl) (fun w' _ => by (go_simp; try rfl))) ?_
  (try simp only [Act.put, List.getElem_toArray, List.getElem_cons_succ, List.getElem_cons_zero, List.setIfInBounds_toArray, List.set_cons_zero, List.set_cons_succ])
  refine wpLA_take (.bool false) (yG_val _ (by rfl) (fun w' _ => by (go_simp; try rfl))) ?_
  (try simp only [Act.put, List.getElem_toArray, List.getElem_cons_succ, List.getElem_cons_zero, List.setIfInBounds_toArray, List.set_cons_zero, List.set_cons_succ])
  refine wpLA_end ?_
  intro w5 hb
  have S5 := hid (S4.out.on hb)
  clear hb S4
  go_wp2_with (at_builtin; refine wpList_append_lie rfl _ _ 22 rfl w5.heap.size 5 (.int .u8 0) 1 Try.underlying22 infoU8 rfl rfl (erow6 _ _ (k := w5.heap.size) rfl (Nat.le_refl _)) HLB.out rfl ((by rw [← HXA.out]; exact (HS.out.on6 S5.out.below).lie : Lie w5 w5.heap.size (some ⟨bk, bo, none⟩) (bvs (a ++ [z]))).alloc (Nat.le_refl _) _) (bvs_one _) ?d1 ?d2 ?d3 ?_)
  case d1 => unfold maxLen; omega
  case d2 => omega
  case d3 => simp
  intro v1 u1 hown1 hg1 hat1
  obtain ⟨g, cl, rfl, hBg, hnc, hc31, hf31, hsq⟩ := low_row y' HA.out hown1
  have hnc1 : (32 : Int) ≤ (cl : Int) := by omega
  have hb2 : Below w5.heap.size w5 (u1.setCell ⟨g, 31, none⟩ (.int .u8 (y'.toNat : Int))) := (((Below.refl _ _).alloc (Nat.le_refl _) _).grown hg1 (by simp) (by intro q hq; simp [Value.ownBlock] at hq; omega)).setCell (p := ⟨g, 31, none⟩) (by simp; omega) _
  have S50 : Hid (St w (u1.setCell ⟨g, 31, none⟩ (.int .u8 (y'.toNat : Int))) [(p2, vx, PT)] [((some ⟨g, 0, none⟩), cl, bvs (a ++ [y']))]) := hid ((S5.out.on hb2).more hsq)
  clear hsq hb2 hown1 hg1 hat1 hBg S5
  go_upto_region 10 with fail
  generalize u1.setCell ⟨g, 31, none⟩ (.int .u8 (y'.toNat : Int)) = u2 at S50 ⊢
  clear hc31 hf31 hnc hnc1 hr1 hr2 hr3
  refine wpLA_start ?_
  refine wpLA_take (.slice (some ⟨g, 0, none⟩) 32 cl) (yG_val _ (by rfl) (fun w' _ => by (go_simp; try rfl))) ?_
  (try simp only [Act.put, List.getElem_toArray, List.getElem_cons_succ, List.getElem_cons_zero, List.setIfInBounds_toArray, List.set_cons_zero, List.set_cons_succ])
  refine wpLA_big (y.val) (by rfl) (fun w' => by go_simp) (fun w' hb => KOF.out _ _ w' (S50.out.on hb).sq.1) ?_
  intro A61 c61 w61 hb hs
  have S61 : Hid (St w w61 [(p2, vx, PT)] [(A61, c61, ivs (dg (y.val))), ((some ⟨g, 0, none⟩), cl, bvs (a ++ [y']))]) := hid ((S50.out.on hb).more hs)
  clear hb hs S50
  (try simp only [Act.put, List.getElem_toArray, List.getElem_cons_succ, List.getElem_cons_zero, List.setIfInBounds_toArray, List.set_cons_zero, List.set_cons_succ])
  refine wpLA_take (.slice A61 ((dg (y.val)).length) c61) (yG_val _ (by rfl) (fun w' _ => by (go_simp; try rfl))) ?_
  (try simp only [Act.put, List.getElem_toArray, List.getElem_cons_succ, List.getElem_cons_zero, List.setIfInBounds_toArray, List.set_cons_zero, List.set_cons_succ])
  refine wpLA_end ?_
  intro w62 hb
  have S62 := hid (S61.out.on hb)
  clear hb S61
  go_upto_region 11 with fail
  refine wpLA_start ?_
  refine wpLA_take (.slice A61 ((dg (y.val)).length) c61) (yG_val _ (by rfl) (fun w' _ => by (go_simp; try rfl))) ?_
  (try simp only [Act.put, List.getElem_toArray, List.getElem_cons_succ, List.getElem_cons_zero, List.setIfInBounds_toArray, List.set_cons_zero, List.set_cons_succ])
  refine wpLA_big (Pn) (by rfl) (fun w' => by go_simp) (fun w' hb => KP.out w') ?_
  intro A63 c63 w63 hb hs
  have S63 : Hid (St w w63 [(p2, vx, PT)] [(A63, c63, ivs (dg (Pn))), (A61, c61, ivs (dg (y.val))), ((some ⟨g, 0, none⟩), cl, bvs (a ++ [y']))]) := hid ((S62.out.on hb).more hs)
  clear hb hs S62
  (try simp only [Act.put, List.getElem_toArray, List.getElem_cons_succ, List.getElem_cons_zero, List.setIfInBounds_toArray, List.set_cons_zero, List.set_cons_succ])
  refine wpLA_take (.bool true) (yG_call (by rfl) (fun w' => by go_simp) (fun w' hb => KL.out _ _ _ _ w' (S63.out.on hb).sq.2.1 (S63.out.on hb).sq.1)) ?_
  (try simp only [Act.put, List.getElem_toArray, List.getElem_cons_succ, List.getElem_cons_zero, List.setIfInBounds_toArray, List.set_cons_zero, List.set_cons_succ])
  refine wpLA_take (.bool false) (yG_val _ (by rfl) (fun w' _ => by (go_simp; try rfl))) ?_
  (try simp only [Act.put, List.getElem_toArray, List.getElem_cons_succ, List.getElem_cons_zero, List.setIfInBounds_toArray, List.set_cons_zero, List.set_cons_succ])
  refine wpLA_end ?_
  intro w64 hb
  have S64 := hid (S63.out.on hb)
  clear hb S63
  go_upto_region 13 with fail
  refine wpLA_start ?_
  refine wpLA_big (Pn) (by rfl) (fun w' => by go_simp) (fun w' hb => KP.out w') ?_
  intro A65 c65 w65 hb hs
  have S65 : Hid (St w w65 [(p2, vx, PT)] [(A65, c65, ivs (dg (Pn))), (A63, c63, ivs (dg (Pn))), (A61, c61, ivs (dg (y.val))), ((some ⟨g, 0, none⟩), cl, bvs (a ++ [y']))]) := hid ((S64.out.on hb).more hs)
  clear hb hs S64
  (try simp only [Act.put, List.getElem_toArray, List.getElem_cons_succ, List.getElem_cons_zero, List.setIfInBounds_toArray, List.set_cons_zero, List.set_cons_succ])
  refine wpLA_big (2) (by rfl) (fun w' => by go_simp) (fun w' hb => K2.out w') ?_
  intro A66 c66 w66 hb hs
  have S66 : Hid (St w w66 [(p2, vx, PT)] [(A66, c66, ivs (dg (2))), (A65, c65, ivs (dg (Pn))), (A63, c63, ivs (dg (Pn))), (A61, c61, ivs (dg (y.val))), ((some ⟨g, 0, none⟩), cl, bvs (a ++ [y']))]) := hid ((S65.out.on hb).more hs)
  clear hb hs S65
  (try simp only [Act.put, List.getElem_toArray, List.getElem_cons_succ, List.getElem_cons_zero, List.setIfInBounds_toArray, List.set_cons_zero, List.set_cons_succ])
  refine wpLA_div e2 r2 (by rfl) (fun w' => by go_simp) (fun w' hb => KD2.out _ _ _ _ w' (S66.out.on hb).sq.2.1 (S66.out.on hb).sq.1) ?_
  intro A67 c67 B67 d67 w67 hb hs hs2
  have S67 : Hid (St w w67 [(p2, vx, PT)] [(A67, c67, ivs (dg e2)), (B67, d67, ivs (dg r2)), (A66, c66, ivs (dg (2))), (A65, c65, ivs (dg (Pn))), (A63, c63, ivs (dg (Pn))), (A61, c61, ivs (dg (y.val))), ((some ⟨g, 0, none⟩), cl, bvs (a ++ [y']))]) := hid (((S66.out.on hb).more hs2).more hs)
  clear hb hs hs2 S66
  (try simp only [Act.put, List.getElem_toArray, List.getElem_cons_succ, List.getElem_cons_zero, List.setIfInBounds_toArray, List.set_cons_zero, List.set_cons_succ])
  refine wpLA_take (.tuple #[(.slice A67 ((dg e2).length) c67), (.slice B67 ((dg r2).length) d67)]) (yG_val _ (by rfl) (fun w' _ => by (go_simp; try rfl))) ?_
  (try simp only [Act.put, List.getElem_toArray, List.getElem_cons_succ, List.getElem_cons_zero, List.setIfInBounds_toArray, List.set_cons_zero, List.set_cons_succ])
  refine wpLA_take (.slice A67 ((dg e2).length) c67) (yG_val _ (by rfl) (fun w' _ => by (go_simp; try rfl))) ?_
  (try simp only [Act.put, List.getElem_toArray, List.getElem_cons_succ, List.getElem_cons_zero, List.setIfInBounds_toArray, List.set_cons_zero, List.set_cons_succ])
  refine wpLA_take (.slice B67 ((dg r2).length) d67) (yG_val _ (by rfl) (fun w' _ => by (go_simp; try rfl))) ?_
  (try simp only [Act.put, List.getElem_toArray, List.getElem_cons_succ, List.getElem_cons_zero, List.setIfInBounds_toArray, List.set_cons_zero, List.set_cons_succ])
  refine wpLA_take (.slice A67 ((dg e2).length) c67) (yG_val _ (by rfl) (fun w' _ => by (go_simp; try rfl))) ?_
  (try simp only [Act.put, List.getElem_toArray, List.getElem_cons_succ, List.getElem_cons_zero, List.setIfInBounds_toArray, List.set_cons_zero, List.set_cons_succ])
  refine wpLA_take (.slice B67 ((dg r2).length) d67) (yG_val _ (by rfl) (fun w' _ => by (go_simp; try rfl))) ?_
  (try simp only [Act.put, List.getElem_toArray, List.getElem_cons_succ, List.getElem_cons_zero, List.setIfInBounds_toArray, List.set_cons_zero, List.set_cons_succ])
  refine wpLA_end ?_
  intro w68 hb
  have S68 := hid (S67.out.on hb)
  clear hb S67
  go_upto_region 14 with fail
  refine wpLA_start ?_
  refine wpLA_take (.slice A61 ((dg (y.val)).length) c61) (yG_val _ (by rfl) (fun w' _ => by (go_simp; try rfl))) ?_
  (try simp only [Act.put, List.getElem_toArray, List.getElem_cons_succ, List.getElem_cons_zero, List.setIfInBounds_toArray, List.set_cons_zero, List.set_cons_succ])
  refine wpLA_big (s.val) (by rfl) (fun w' => by go_simp) (fun w' hb => KSQ.out _ _ w' (S68.out.on hb).sq.2.2.2.2.2.1) ?_
  intro A69 c69 w69 hb hs
  have S69 : Hid (St w w69 [(p2, vx, PT)] [(A69, c69, ivs (dg (s.val))), (A67, c67, ivs (dg e2)), (B67, d67, ivs (dg r2)), (A66, c66, ivs (dg (2))), (A65, c65, ivs (dg (Pn))), (A63, c63, ivs (dg (Pn))), (A61, c61, ivs (dg (y.val))), ((some ⟨g, 0, none⟩), cl, bvs (a ++ [y']))]) := hid ((S68.out.on hb).more hs)
  clear hb hs S68
  (try simp only [Act.put, List.getElem_toArray, List.getElem_cons_succ, List.getElem_cons_zero, List.setIfInBounds_toArray, List.set_cons_zero, List.set_cons_succ])
  refine wpLA_take (.slice A69 ((dg (s.val)).length) c69) (yG_val _ (by rfl) (fun w' _ => by (go_simp; try rfl))) ?_
  (try simp only [Act.put, List.getElem_toArray, List.getElem_cons_succ, List.getElem_cons_zero, List.setIfInBounds_toArray, List.set_cons_zero, List.set_cons_succ])
  refine wpLA_end ?_
  intro w70 hb
  have S70 := hid (S69.out.on hb)
  clear hb S69
  go_upto_region 15 with fail
  refine wpLA_start ?_
  refine wpLA_take (.slice A69 ((dg (s.val)).length) c69) (yG_val _ (by rfl) (fun w' _ => by (go_simp; try rfl))) ?_
  (try simp only [Act.put, List.getElem_toArray, List.getElem_cons_succ, List.getElem_cons_zero, List.setIfInBounds_toArray, List.set_cons_zero, List.set_cons_succ])
  refine wpLA_take (.slice A67 ((dg e2).length) c67) (yG_val _ (by rfl) (fun w' _ => by (go_simp; try rfl))) ?_
  (try simp only [Act.put, List.getElem_toArray, List.getElem_cons_succ, List.getElem_cons_zero, List.setIfInBounds_toArray, List.set_cons_zero, List.set_cons_succ])
  refine wpLA_bytes (B2) (by rfl) (fun w' => by go_simp) (fun w' hb => KB2.out _ _ w' (S70.out.on hb).sq.2.1) ?_
  intro A71 c71 w71 hb hs
  have S71 : Hid (St w w71 [(p2, vx, PT)] [(A71, c71, bvs (B2)), (A69, c69, ivs (dg (s.val))), (A67, c67, ivs (dg e2)), (B67, d67, ivs (dg r2)), (A66, c66, ivs (dg (2))), (A65, c65, ivs (dg (Pn))), (A63, c63, ivs (dg (Pn))), (A61, c61, ivs (dg (y.val))), ((some ⟨g, 0, none⟩), cl, bvs (a ++ [y']))]) := hid ((S70.out.on hb).more hs)
  clear hb hs S70
  (try simp only [Act.put, List.getElem_toArray, List.getElem_cons_succ, List.getElem_cons_zero, List.setIfInBounds_toArray, List.set_cons_zero, List.set_cons_succ])
  refine wpLA_big (hv) (by rfl) (fun w' => by go_simp) (fun w' hb => KW.out _ _ _ _ w' (S71.out.on hb).sq.2.1 (S71.out.on hb).sq.1) ?_
  intro A72 c72 w72 hb hs
  have S72 : Hid (St w w72 [(p2, vx, PT)] [(A72, c72, ivs (dg (hv))), (A71, c71, bvs (B2)), (A69, c69, ivs (dg (s.val))), (A67, c67, ivs (dg e2)), (B67, d67, ivs (dg r2)), (A66, c66, ivs (dg (2))), (A65, c65, ivs (dg (Pn))), (A63, c63, ivs (dg (Pn))), (A61, c61, ivs (dg (y.val))), ((some ⟨g, 0, none⟩), cl, bvs (a ++ [y']))]) := hid ((S71.out.on hb).more hs)
  clear hb hs S71
  (try simp only [Act.put, List.getElem_toArray, List.getElem_cons_succ, List.getElem_cons_zero, List.setIfInBounds_toArray, List.set_cons_zero, List.set_cons_succ])
  refine wpLA_take (.slice A72 ((dg (hv)).length) c72) (yG_val _ (by rfl) (fun w' _ => by (go_simp; try rfl))) ?_
  (try simp only [Act.put, List.getElem_toArray, List.getElem_cons_succ, List.getElem_cons_zero, List.setIfInBounds_toArray, List.set_cons_zero, List.set_cons_succ])
  refine wpLA_end ?_
  intro w73 hb
  have S73 := hid (S72.out.on hb)
  clear hb S72
  by_cases hs0 : s = 0
  · have HDL : Hid ((dg s.val).length = 0) := hid (by rw [hs0]; show (dg 0).length = 0; rw [dg_zero]; rfl)
    by_cases hz : z.toNat < 128
    · have HZ := hid hz
      have hb : bx = true := hw.2 (.inl ⟨hs0, hz⟩)
      have hb2 : (ptOf xs).isSome = true := by rw [← HBX.out]; exact hb
      obtain ⟨p, hp⟩ := Option.isSome_iff_exists.1 hb2
      have hpx : ptO xs = p := by unfold ptO; rw [hp]; rfl
      rw [hpx] at HVX
      have HPB := hid (ptOf_some hp).2
      clear HBX
      subst hb
      clear hb2 hp hpx hw
      clear hs0 hz
      go_upto_region 16 with fail
      refine wpLA_start ?_
      refine wpLA_take (.slice A69 ((dg (s.val)).length) c69) (yG_val _ (by rfl) (fun w' _ => by (go_simp; try rfl))) ?_
      (try simp only [Act.put, List.getElem_toArray, List.getElem_cons_succ, List.getElem_cons_zero, List.setIfInBounds_toArray, List.set_cons_zero, List.set_cons_succ])
      refine wpLA_take (.int .i64 (((dg (s.val)).length : Nat))) (yG_val _ (by rfl) (fun w' _ => by (go_simp; try rfl))) ?_
      (try simp only [Act.put, List.getElem_toArray, List.getElem_cons_succ, List.getElem_cons_zero, List.setIfInBounds_toArray, List.set_cons_zero, List.set_cons_succ])
      refine wpLA_take (.bool true) (yG_val _ (by rfl) (fun w' _ => by (have hd := HDL.out; go_simp; try simp [hd]; try omega))) ?_
      (try simp only [Act.put, List.getElem_toArray, List.getElem_cons_succ, List.getElem_cons_zero, List.setIfInBounds_toArray, List.set_cons_zero, List.set_cons_succ])
      refine wpLA_take (.bool true) (yG_val _ (by rfl) (fun w' _ => by (go_simp; try rfl))) ?_
      (try simp only [Act.put, List.getElem_toArray, List.getElem_cons_succ, List.getElem_cons_zero, List.setIfInBounds_toArray, List.set_cons_zero, List.set_cons_succ])
      refine wpLA_take (.slice (some ⟨bk, bo, none⟩) 32 c) (yG_val _ (by rfl) (fun w' _ => by (go_simp; try rfl))) ?_
      (try simp only [Act.put, List.getElem_toArray, List.getElem_cons_succ, List.getElem_cons_zero, List.setIfInBounds_toArray, List.set_cons_zero, List.set_cons_succ])
      refine wpLA_take (.pointer (some ⟨bk, (bo + 31), none⟩)) (yG_val _ (by rfl) (fun w' _ => by (go_simp; try rfl))) ?_
      (try simp only [Act.put, List.getElem_toArray, List.getElem_cons_succ, List.getElem_cons_zero, List.setIfInBounds_toArray, List.set_cons_zero, List.set_cons_succ])
      refine wpLA_take (.int .u8 ((z.toNat : Nat))) (yG_val _ (by rfl) (fun w' hb => by (have hcw : w'.cell? ⟨bk, bo + 31, none⟩ = some (.int .u8 (z.toNat : Int)) := (by rw [((S73.out.on hb).below).cell (p := ⟨bk, bo + 31, none⟩) HBK.out]; exact HCELL.out); go_simp; try rfl))) ?_
      (try simp only [Act.put, List.getElem_toArray, List.getElem_cons_succ, List.getElem_cons_zero, List.setIfInBounds_toArray, List.set_cons_zero, List.set_cons_succ])
      refine wpLA_take (.bool true) (yG_val _ (by rfl) (fun w' _ => by (have hz := HZ.out; go_simp; try omega))) ?_
      (try simp only [Act.put, List.getElem_toArray, List.getElem_cons_succ, List.getElem_cons_zero, List.setIfInBounds_toArray, List.set_cons_zero, List.set_cons_succ])
      refine wpLA_take (.bool true) (yG_val _ (by rfl) (fun w' _ => by (go_simp; try rfl))) ?_
      (try simp only [Act.put, List.getElem_toArray, List.getElem_cons_succ, List.getElem_cons_zero, List.setIfInBounds_toArray, List.set_cons_zero, List.set_cons_succ])
      refine wpLA_take (.bool true) (yG_val _ (by rfl) (fun w' _ => by (go_simp; try rfl))) ?_
      (try simp only [Act.put, List.getElem_toArray, List.getElem_cons_succ, List.getElem_cons_zero, List.setIfInBounds_toArray, List.set_cons_zero, List.set_cons_succ])
      refine wpLA_take undef (yG_skip (by rfl)) ?_
      (try simp only [Act.put, List.getElem_toArray, List.getElem_cons_succ, List.getElem_cons_zero, List.setIfInBounds_toArray, List.set_cons_zero, List.set_cons_succ])
      refine wpLA_take undef (yG_skip (by rfl)) ?_
      (try simp only [Act.put, List.getElem_toArray, List.getElem_cons_succ, List.getElem_cons_zero, List.setIfInBounds_toArray, List.set_cons_zero, List.set_cons_succ])
      refine wpLA_take undef (yG_skip (by rfl)) ?_
      (try simp only [Act.put, List.getElem_toArray, List.getElem_cons_succ, List.getElem_cons_zero, List.setIfInBounds_toArray, List.set_cons_zero, List.set_cons_succ])
      refine wpLA_take undef (yG_skip (by rfl)) ?_
      (try simp only [Act.put, List.getElem_toArray, List.getElem_cons_succ, List.getElem_cons_zero, List.setIfInBounds_toArray, List.set_cons_zero, List.set_cons_succ])
      refine wpLA_take undef (yG_skip (by rfl)) ?_
      (try simp only [Act.put, List.getElem_toArray, List.getElem_cons_succ, List.getElem_cons_zero, List.setIfInBounds_toArray, List.set_cons_zero, List.set_cons_succ])
      refine wpLA_take undef (yG_skip (by rfl)) ?_
      (try simp only [Act.put, List.getElem_toArray, List.getElem_cons_succ, List.getElem_cons_zero, List.setIfInBounds_toArray, List.set_cons_zero, List.set_cons_succ])
      refine wpLA_take undef (yG_skip (by rfl)) ?_
      (try simp only [Act.put, List.getElem_toArray, List.getElem_cons_succ, List.getElem_cons_zero, List.setIfInBounds_toArray, List.set_cons_zero, List.set_cons_succ])
      refine wpLA_take undef (yG_skip (by rfl)) ?_
      (try simp only [Act.put, List.getElem_toArray, List.getElem_cons_succ, List.getElem_cons_zero, List.setIfInBounds_toArray, List.set_cons_zero, List.set_cons_succ])
      refine wpLA_take (.bool true) (yG_val _ (by rfl) (fun w' _ => by (go_simp; try rfl))) ?_
      (try simp only [Act.put, List.getElem_toArray, List.getElem_cons_succ, List.getElem_cons_zero, List.setIfInBounds_toArray, List.set_cons_zero, List.set_cons_succ])
      refine wpLA_take (.bool true) (yG_val _ (by rfl) (fun w' _ => by (go_simp; try rfl))) ?_
      (try simp only [Act.put, List.getElem_toArray, List.getElem_cons_succ, List.getElem_cons_zero, List.setIfInBounds_toArray, List.set_cons_zero, List.set_cons_succ])
      refine wpLA_end ?_
      intro w74 hb
      have S74 := hid (S73.out.on hb)
      clear hb S73
      go_upto_region 17 with fail
      refine wpLA_start ?_
      refine wpLA_take (.bool true) (yG_val _ (by rfl) (fun w' _ => by (go_simp; try rfl))) ?_
      (try simp only [Act.put, List.getElem_toArray, List.getElem_cons_succ, List.getElem_cons_zero, List.setIfInBounds_toArray, List.set_cons_zero, List.set_cons_succ])
      refine wpLA_take (.bool true) (yG_val _ (by rfl) (fun w' _ => by (go_simp; try rfl))) ?_
      (try simp only [Act.put, List.getElem_toArray, List.getElem_cons_succ, List.getElem_cons_zero, List.setIfInBounds_toArray, List.set_cons_zero, List.set_cons_succ])
      refine wpLA_take (.bool false) (yG_val _ (by rfl) (fun w' _ => by (go_simp; try rfl))) ?_
      (try simp only [Act.put, List.getElem_toArray, List.getElem_cons_succ, List.getElem_cons_zero, List.setIfInBounds_toArray, List.set_cons_zero, List.set_cons_succ])
      refine wpLA_end ?_
      intro w75 hb
      have S75 := hid (S74.out.on hb)
      clear hb S74
      go_upto_region 19 with fail
      refine wpLA_start ?_
      refine wpLA_take (.bool true) (yG_val _ (by rfl) (fun w' _ => by (go_simp; try rfl))) ?_
      (try simp only [Act.put, List.getElem_toArray, List.getElem_cons_succ, List.getElem_cons_zero, List.setIfInBounds_toArray, List.set_cons_zero, List.set_cons_succ])
      refine wpLA_take (.bool false) (yG_val _ (by rfl) (fun w' _ => by (go_simp; try rfl))) ?_
      (try simp only [Act.put, List.getElem_toArray, List.getElem_cons_succ, List.getElem_cons_zero, List.setIfInBounds_toArray, List.set_cons_zero, List.set_cons_succ])
      refine wpLA_take (.bool false) (yG_val _ (by rfl) (fun w' _ => by (go_simp; try rfl))) ?_
      (try simp only [Act.put, List.getElem_toArray, List.getElem_cons_succ, List.getElem_cons_zero, List.setIfInBounds_toArray, List.set_cons_zero, List.set_cons_succ])
      refine wpLA_take (.agg (vx)) (yG_part (by rfl) PT (.tmp 3) rfl p2 0 rfl PT (vx) (vx) (0, 0) _ S75.out.cl.1 HVX.out.all Try.underlying28 rfl HVX.out.info) ?_
      (try simp only [Act.put, List.getElem_toArray, List.getElem_cons_succ, List.getElem_cons_zero, List.setIfInBounds_toArray, List.set_cons_zero, List.set_cons_succ])
      have LB := CvBytes HVX.out
      refine wpLA_bytes (pB p) (by rfl) (fun w' => by go_simp) (fun w' hb => LB.out w') ?_
      intro A76 c76 w76 hb hs
      have S76 : Hid (St w w76 [(p2, vx, PT)] [(A76, c76, bvs (pB p)), (A72, c72, ivs (dg (hv))), (A71, c71, bvs (B2)), (A69, c69, ivs (dg (s.val))), (A67, c67, ivs (dg e2)), (B67, d67, ivs (dg r2)), (A66, c66, ivs (dg (2))), (A65, c65, ivs (dg (Pn))), (A63, c63, ivs (dg (Pn))), (A61, c61, ivs (dg (y.val))), ((some ⟨g, 0, none⟩), cl, bvs (a ++ [y']))]) := hid ((S75.out.on hb).more hs)
      clear hb hs S75
      (try simp only [Act.put, List.getElem_toArray, List.getElem_cons_succ, List.getElem_cons_zero, List.setIfInBounds_toArray, List.set_cons_zero, List.set_cons_succ])
      refine wpLA_take (.slice (some ⟨bk, bo, none⟩) 32 c) (yG_val _ (by rfl) (fun w' _ => by (go_simp; try rfl))) ?_
      (try simp only [Act.put, List.getElem_toArray, List.getElem_cons_succ, List.getElem_cons_zero, List.setIfInBounds_toArray, List.set_cons_zero, List.set_cons_succ])
      have KSB : Hid (∀ A1 c1 W, Sq W W.heap.size A1 c1 (bvs (pB p)) → Sq W W.heap.size (some ⟨bk, bo, none⟩) c (bvs xs) → Calls Try.prog 20 #[.slice A1 ((pB p).length) c1, .slice (some ⟨bk, bo, none⟩) 32 c] W fun e w1 => e = .returned (.bool true) ∧ Below W.heap.size W w1) := hid fun A1 c1 W h h2 => by have h3 := same_is A1 (pB p) c1 ((pB p).length) (some ⟨bk, bo, none⟩) xs c 32 W h h2 rfl HXL.out (by rw [pB_length]; omega); rw [show (pB p == xs) = true by rw [HPB.out]; exact beq_self_eq_true _] at h3; exact h3
      refine wpLA_take (.bool true) (yG_call (by rfl) (fun w' => by go_simp) (fun w' hb => KSB.out _ _ w' (S76.out.on hb).sq.1 (HS.out.on6 ((S76.out.on hb).below)))) ?_
      (try simp only [Act.put, List.getElem_toArray, List.getElem_cons_succ, List.getElem_cons_zero, List.setIfInBounds_toArray, List.set_cons_zero, List.set_cons_succ])
      refine wpLA_take (.bool true) (yG_val _ (by rfl) (fun w' _ => by (go_simp; try rfl))) ?_
      (try simp only [Act.put, List.getElem_toArray, List.getElem_cons_succ, List.getElem_cons_zero, List.setIfInBounds_toArray, List.set_cons_zero, List.set_cons_succ])
      refine wpLA_take (.agg (vx)) (yG_part (by rfl) PT (.tmp 3) rfl p2 0 rfl PT (vx) (vx) (0, 0) _ S76.out.cl.1 HVX.out.all Try.underlying28 rfl HVX.out.info) ?_
      (try simp only [Act.put, List.getElem_toArray, List.getElem_cons_succ, List.getElem_cons_zero, List.setIfInBounds_toArray, List.set_cons_zero, List.set_cons_succ])
      have KR := CvRight HVX.out
      refine wpLA_take (.bool true) (yG_call (by rfl) (fun w' => by go_simp) (fun w' hb => KR.out w')) ?_
      (try simp only [Act.put, List.getElem_toArray, List.getElem_cons_succ, List.getElem_cons_zero, List.setIfInBounds_toArray, List.set_cons_zero, List.set_cons_succ])
      refine wpLA_take (.bool true) (yG_val _ (by rfl) (fun w' _ => by (go_simp; try rfl))) ?_
      (try simp only [Act.put, List.getElem_toArray, List.getElem_cons_succ, List.getElem_cons_zero, List.setIfInBounds_toArray, List.set_cons_zero, List.set_cons_succ])
      refine wpLA_take (.bool true) (yG_val _ (by rfl) (fun w' _ => by (go_simp; try rfl))) ?_
      (try simp only [Act.put, List.getElem_toArray, List.getElem_cons_succ, List.getElem_cons_zero, List.setIfInBounds_toArray, List.set_cons_zero, List.set_cons_succ])
      refine wpLA_take (.bool true) (yG_val _ (by rfl) (fun w' _ => by (go_simp; try rfl))) ?_
      (try simp only [Act.put, List.getElem_toArray, List.getElem_cons_succ, List.getElem_cons_zero, List.setIfInBounds_toArray, List.set_cons_zero, List.set_cons_succ])
      refine wpLA_end ?_
      intro w77 hb
      have S77 := hid (S76.out.on hb)
      clear hb S76
      go_wp2_with fail
      go_ret
      exact ⟨rfl, S77.out.below⟩
    · have HZ := hid hz
      have hb : bx = false := by
        cases hb : bx with
        | false => rfl
        | true => exact absurd (hw.1 hb) (fun h => by rcases h with h | h; exact hz h.2; exact h.1 hs0)
      clear HBX
      subst hb
      clear hw
      clear hs0 hz
      go_upto_region 16 with fail
      refine wpLA_start ?_
      refine wpLA_take (.slice A69 ((dg (s.val)).length) c69) (yG_val _ (by rfl) (fun w' _ => by (go_simp; try rfl))) ?_
      (try simp only [Act.put, List.getElem_toArray, List.getElem_cons_succ, List.getElem_cons_zero, List.setIfInBounds_toArray, List.set_cons_zero, List.set_cons_succ])
      refine wpLA_take (.int .i64 (((dg (s.val)).length : Nat))) (yG_val _ (by rfl) (fun w' _ => by (go_simp; try rfl))) ?_
      (try simp only [Act.put, List.getElem_toArray, List.getElem_cons_succ, List.getElem_cons_zero, List.setIfInBounds_toArray, List.set_cons_zero, List.set_cons_succ])
      refine wpLA_take (.bool true) (yG_val _ (by rfl) (fun w' _ => by (have hd := HDL.out; go_simp; try simp [hd]; try omega))) ?_
      (try simp only [Act.put, List.getElem_toArray, List.getElem_cons_succ, List.getElem_cons_zero, List.setIfInBounds_toArray, List.set_cons_zero, List.set_cons_succ])
      refine wpLA_take (.bool true) (yG_val _ (by rfl) (fun w' _ => by (go_simp; try rfl))) ?_
      (try simp only [Act.put, List.getElem_toArray, List.getElem_cons_succ, List.getElem_cons_zero, List.setIfInBounds_toArray, List.set_cons_zero, List.set_cons_succ])
      refine wpLA_take (.slice (some ⟨bk, bo, none⟩) 32 c) (yG_val _ (by rfl) (fun w' _ => by (go_simp; try rfl))) ?_
      (try simp only [Act.put, List.getElem_toArray, List.getElem_cons_succ, List.getElem_cons_zero, List.setIfInBounds_toArray, List.set_cons_zero, List.set_cons_succ])
      refine wpLA_take (.pointer (some ⟨bk, (bo + 31), none⟩)) (yG_val _ (by rfl) (fun w' _ => by (go_simp; try rfl))) ?_
      (try simp only [Act.put, List.getElem_toArray, List.getElem_cons_succ, List.getElem_cons_zero, List.setIfInBounds_toArray, List.set_cons_zero, List.set_cons_succ])
      refine wpLA_take (.int .u8 ((z.toNat : Nat))) (yG_val _ (by rfl) (fun w' hb => by (have hcw : w'.cell? ⟨bk, bo + 31, none⟩ = some (.int .u8 (z.toNat : Int)) := (by rw [((S73.out.on hb).below).cell (p := ⟨bk, bo + 31, none⟩) HBK.out]; exact HCELL.out); go_simp; try rfl))) ?_
      (try simp only [Act.put, List.getElem_toArray, List.getElem_cons_succ, List.getElem_cons_zero, List.setIfInBounds_toArray, List.set_cons_zero, List.set_cons_succ])
      refine wpLA_take (.bool false) (yG_val _ (by rfl) (fun w' _ => by (have hz := HZ.out; go_simp; try omega))) ?_
      (try simp only [Act.put, List.getElem_toArray, List.getElem_cons_succ, List.getElem_cons_zero, List.setIfInBounds_toArray, List.set_cons_zero, List.set_cons_succ])
      refine wpLA_take (.bool false) (yG_val _ (by rfl) (fun w' _ => by (go_simp; try rfl))) ?_
      (try simp only [Act.put, List.getElem_toArray, List.getElem_cons_succ, List.getElem_cons_zero, List.setIfInBounds_toArray, List.set_cons_zero, List.set_cons_succ])
      refine wpLA_take (.bool false) (yG_val _ (by rfl) (fun w' _ => by (go_simp; try rfl))) ?_
      (try simp only [Act.put, List.getElem_toArray, List.getElem_cons_succ, List.getElem_cons_zero, List.setIfInBounds_toArray, List.set_cons_zero, List.set_cons_succ])
      refine wpLA_take (.slice A69 ((dg (s.val)).length) c69) (yG_val _ (by rfl) (fun w' _ => by (go_simp; try rfl))) ?_
      (try simp only [Act.put, List.getElem_toArray, List.getElem_cons_succ, List.getElem_cons_zero, List.setIfInBounds_toArray, List.set_cons_zero, List.set_cons_succ])
      refine wpLA_take (.int .i64 (((dg (s.val)).length : Nat))) (yG_val _ (by rfl) (fun w' _ => by (go_simp; try rfl))) ?_
      (try simp only [Act.put, List.getElem_toArray, List.getElem_cons_succ, List.getElem_cons_zero, List.setIfInBounds_toArray, List.set_cons_zero, List.set_cons_succ])
      refine wpLA_take (.bool false) (yG_val _ (by rfl) (fun w' _ => by (have hd := HDL.out; go_simp; try simp [hd]; try omega))) ?_
      (try simp only [Act.put, List.getElem_toArray, List.getElem_cons_succ, List.getElem_cons_zero, List.setIfInBounds_toArray, List.set_cons_zero, List.set_cons_succ])
      refine wpLA_take (.bool false) (yG_val _ (by rfl) (fun w' _ => by (go_simp; try rfl))) ?_
      (try simp only [Act.put, List.getElem_toArray, List.getElem_cons_succ, List.getElem_cons_zero, List.setIfInBounds_toArray, List.set_cons_zero, List.set_cons_succ])
      refine wpLA_take undef (yG_skip (by rfl)) ?_
      (try simp only [Act.put, List.getElem_toArray, List.getElem_cons_succ, List.getElem_cons_zero, List.setIfInBounds_toArray, List.set_cons_zero, List.set_cons_succ])
      refine wpLA_take undef (yG_skip (by rfl)) ?_
      (try simp only [Act.put, List.getElem_toArray, List.getElem_cons_succ, List.getElem_cons_zero, List.setIfInBounds_toArray, List.set_cons_zero, List.set_cons_succ])
      refine wpLA_take undef (yG_skip (by rfl)) ?_
      (try simp only [Act.put, List.getElem_toArray, List.getElem_cons_succ, List.getElem_cons_zero, List.setIfInBounds_toArray, List.set_cons_zero, List.set_cons_succ])
      refine wpLA_take (.bool false) (yG_val _ (by rfl) (fun w' _ => by (go_simp; try rfl))) ?_
      (try simp only [Act.put, List.getElem_toArray, List.getElem_cons_succ, List.getElem_cons_zero, List.setIfInBounds_toArray, List.set_cons_zero, List.set_cons_succ])
      refine wpLA_take (.bool false) (yG_val _ (by rfl) (fun w' _ => by (go_simp; try rfl))) ?_
      (try simp only [Act.put, List.getElem_toArray, List.getElem_cons_succ, List.getElem_cons_zero, List.setIfInBounds_toArray, List.set_cons_zero, List.set_cons_succ])
      refine wpLA_take (.bool false) (yG_val _ (by rfl) (fun w' _ => by (go_simp; try rfl))) ?_
      (try simp only [Act.put, List.getElem_toArray, List.getElem_cons_succ, List.getElem_cons_zero, List.setIfInBounds_toArray, List.set_cons_zero, List.set_cons_succ])
      refine wpLA_end ?_
      intro w78 hb
      have S78 := hid (S73.out.on hb)
      clear hb S73
      go_upto_region 17 with fail
      refine wpLA_start ?_
      refine wpLA_take (.bool false) (yG_val _ (by rfl) (fun w' _ => by (go_simp; try rfl))) ?_
      (try simp only [Act.put, List.getElem_toArray, List.getElem_cons_succ, List.getElem_cons_zero, List.setIfInBounds_toArray, List.set_cons_zero, List.set_cons_succ])
      refine wpLA_take (.bool false) (yG_val _ (by rfl) (fun w' _ => by (go_simp; try rfl))) ?_
      (try simp only [Act.put, List.getElem_toArray, List.getElem_cons_succ, List.getElem_cons_zero, List.setIfInBounds_toArray, List.set_cons_zero, List.set_cons_succ])
      refine wpLA_take (.bool false) (yG_val _ (by rfl) (fun w' _ => by (go_simp; try rfl))) ?_
      (try simp only [Act.put, List.getElem_toArray, List.getElem_cons_succ, List.getElem_cons_zero, List.setIfInBounds_toArray, List.set_cons_zero, List.set_cons_succ])
      refine wpLA_end ?_
      intro w79 hb
      have S79 := hid (S78.out.on hb)
      clear hb S78
      go_upto_region 19 with fail
      refine wpLA_start ?_
      refine wpLA_take (.bool false) (yG_val _ (by rfl) (fun w' _ => by (go_simp; try rfl))) ?_
      (try simp only [Act.put, List.getElem_toArray, List.getElem_cons_succ, List.getElem_cons_zero, List.setIfInBounds_toArray, List.set_cons_zero, List.set_cons_succ])
      refine wpLA_take (.bool true) (yG_val _ (by rfl) (fun w' _ => by (go_simp; try rfl))) ?_
      (try simp only [Act.put, List.getElem_toArray, List.getElem_cons_succ, List.getElem_cons_zero, List.setIfInBounds_toArray, List.set_cons_zero, List.set_cons_succ])
      refine wpLA_take (.bool true) (yG_val _ (by rfl) (fun w' _ => by (go_simp; try rfl))) ?_
      (try simp only [Act.put, List.getElem_toArray, List.getElem_cons_succ, List.getElem_cons_zero, List.setIfInBounds_toArray, List.set_cons_zero, List.set_cons_succ])
      refine wpLA_take undef (yG_skip (by rfl)) ?_
      (try simp only [Act.put, List.getElem_toArray, List.getElem_cons_succ, List.getElem_cons_zero, List.setIfInBounds_toArray, List.set_cons_zero, List.set_cons_succ])
      refine wpLA_take undef (yG_skip (by rfl)) ?_
      (try simp only [Act.put, List.getElem_toArray, List.getElem_cons_succ, List.getElem_cons_zero, List.setIfInBounds_toArray, List.set_cons_zero, List.set_cons_succ])
      refine wpLA_take undef (yG_skip (by rfl)) ?_
      (try simp only [Act.put, List.getElem_toArray, List.getElem_cons_succ, List.getElem_cons_zero, List.setIfInBounds_toArray, List.set_cons_zero, List.set_cons_succ])
      refine wpLA_take undef (yG_skip (by rfl)) ?_
      (try simp only [Act.put, List.getElem_toArray, List.getElem_cons_succ, List.getElem_cons_zero, List.setIfInBounds_toArray, List.set_cons_zero, List.set_cons_succ])
      refine wpLA_take undef (yG_skip (by rfl)) ?_
      (try simp only [Act.put, List.getElem_toArray, List.getElem_cons_succ, List.getElem_cons_zero, List.setIfInBounds_toArray, List.set_cons_zero, List.set_cons_succ])
      refine wpLA_take undef (yG_skip (by rfl)) ?_
      (try simp only [Act.put, List.getElem_toArray, List.getElem_cons_succ, List.getElem_cons_zero, List.setIfInBounds_toArray, List.set_cons_zero, List.set_cons_succ])
      refine wpLA_take undef (yG_skip (by rfl)) ?_
      (try simp only [Act.put, List.getElem_toArray, List.getElem_cons_succ, List.getElem_cons_zero, List.setIfInBounds_toArray, List.set_cons_zero, List.set_cons_succ])
      refine wpLA_take undef (yG_skip (by rfl)) ?_
      (try simp only [Act.put, List.getElem_toArray, List.getElem_cons_succ, List.getElem_cons_zero, List.setIfInBounds_toArray, List.set_cons_zero, List.set_cons_succ])
      refine wpLA_take (.bool true) (yG_val _ (by rfl) (fun w' _ => by (go_simp; try rfl))) ?_
      (try simp only [Act.put, List.getElem_toArray, List.getElem_cons_succ, List.getElem_cons_zero, List.setIfInBounds_toArray, List.set_cons_zero, List.set_cons_succ])
      refine wpLA_take (.bool true) (yG_val _ (by rfl) (fun w' _ => by (go_simp; try rfl))) ?_
      (try simp only [Act.put, List.getElem_toArray, List.getElem_cons_succ, List.getElem_cons_zero, List.setIfInBounds_toArray, List.set_cons_zero, List.set_cons_succ])
      refine wpLA_end ?_
      intro w80 hb
      have S80 := hid (S79.out.on hb)
      clear hb S79
      go_wp2_with fail
      go_ret
      exact ⟨rfl, S80.out.below⟩
  · have HDL : Hid (0 < (dg s.val).length) := hid (by
      rcases Nat.eq_zero_or_pos (dg s.val).length with h | h
      · exfalso
        have h2 := (dg_length_le s.val 0).1 (by omega)
        rw [Nat.pow_zero] at h2
        exact hs0 (Fin.ext (by show s.val = 0; omega))
      · exact h)
    by_cases hh : hv = 1
    · have hd : decide (hv = 1) = true := decide_eq_true hh
      rw [hd] at KSm
      have hb : bx = true := hw.2 (.inr ⟨hs0, hh⟩)
      have hb2 : (ptOf xs).isSome = true := by rw [← HBX.out]; exact hb
      obtain ⟨p, hp⟩ := Option.isSome_iff_exists.1 hb2
      have hpx : ptO xs = p := by unfold ptO; rw [hp]; rfl
      rw [hpx] at HVX
      have HPB := hid (ptOf_some hp).2
      clear HBX
      subst hb
      clear hb2 hp hpx hw
      clear hs0 hh hd
      go_upto_region 16 with fail
      refine wpLA_start ?_
      refine wpLA_take (.slice A69 ((dg (s.val)).length) c69) (yG_val _ (by rfl) (fun w' _ => by (go_simp; try rfl))) ?_
      (try simp only [Act.put, List.getElem_toArray, List.getElem_cons_succ, List.getElem_cons_zero, List.setIfInBounds_toArray, List.set_cons_zero, List.set_cons_succ])
      refine wpLA_take (.int .i64 (((dg (s.val)).length : Nat))) (yG_val _ (by rfl) (fun w' _ => by (go_simp; try rfl))) ?_
      (try simp only [Act.put, List.getElem_toArray, List.getElem_cons_succ, List.getElem_cons_zero, List.setIfInBounds_toArray, List.set_cons_zero, List.set_cons_succ])
      refine wpLA_take (.bool false) (yG_val _ (by rfl) (fun w' _ => by (have hd := HDL.out; go_simp; intro hnil; rw [hnil] at hd; exact absurd hd (by decide)))) ?_
      (try simp only [Act.put, List.getElem_toArray, List.getElem_cons_succ, List.getElem_cons_zero, List.setIfInBounds_toArray, List.set_cons_zero, List.set_cons_succ])
      refine wpLA_take (.bool false) (yG_val _ (by rfl) (fun w' _ => by (go_simp; try rfl))) ?_
      (try simp only [Act.put, List.getElem_toArray, List.getElem_cons_succ, List.getElem_cons_zero, List.setIfInBounds_toArray, List.set_cons_zero, List.set_cons_succ])
      refine wpLA_take undef (yG_skip (by rfl)) ?_
      (try simp only [Act.put, List.getElem_toArray, List.getElem_cons_succ, List.getElem_cons_zero, List.setIfInBounds_toArray, List.set_cons_zero, List.set_cons_succ])
      refine wpLA_take undef (yG_skip (by rfl)) ?_
      (try simp only [Act.put, List.getElem_toArray, List.getElem_cons_succ, List.getElem_cons_zero, List.setIfInBounds_toArray, List.set_cons_zero, List.set_cons_succ])
      refine wpLA_take undef (yG_skip (by rfl)) ?_
      (try simp only [Act.put, List.getElem_toArray, List.getElem_cons_succ, List.getElem_cons_zero, List.setIfInBounds_toArray, List.set_cons_zero, List.set_cons_succ])
      refine wpLA_take undef (yG_skip (by rfl)) ?_
      (try simp only [Act.put, List.getElem_toArray, List.getElem_cons_succ, List.getElem_cons_zero, List.setIfInBounds_toArray, List.set_cons_zero, List.set_cons_succ])
      refine wpLA_take (.bool false) (yG_val _ (by rfl) (fun w' _ => by (go_simp; try rfl))) ?_
      (try simp only [Act.put, List.getElem_toArray, List.getElem_cons_succ, List.getElem_cons_zero, List.setIfInBounds_toArray, List.set_cons_zero, List.set_cons_succ])
      refine wpLA_take (.bool false) (yG_val _ (by rfl) (fun w' _ => by (go_simp; try rfl))) ?_
      (try simp only [Act.put, List.getElem_toArray, List.getElem_cons_succ, List.getElem_cons_zero, List.setIfInBounds_toArray, List.set_cons_zero, List.set_cons_succ])
      refine wpLA_take (.slice A69 ((dg (s.val)).length) c69) (yG_val _ (by rfl) (fun w' _ => by (go_simp; try rfl))) ?_
      (try simp only [Act.put, List.getElem_toArray, List.getElem_cons_succ, List.getElem_cons_zero, List.setIfInBounds_toArray, List.set_cons_zero, List.set_cons_succ])
      refine wpLA_take (.int .i64 (((dg (s.val)).length : Nat))) (yG_val _ (by rfl) (fun w' _ => by (go_simp; try rfl))) ?_
      (try simp only [Act.put, List.getElem_toArray, List.getElem_cons_succ, List.getElem_cons_zero, List.setIfInBounds_toArray, List.set_cons_zero, List.set_cons_succ])
      refine wpLA_take (.bool true) (yG_val _ (by rfl) (fun w' _ => by (have hd := HDL.out; go_simp; try simp [hd]; try omega))) ?_
      (try simp only [Act.put, List.getElem_toArray, List.getElem_cons_succ, List.getElem_cons_zero, List.setIfInBounds_toArray, List.set_cons_zero, List.set_cons_succ])
      refine wpLA_take (.bool true) (yG_val _ (by rfl) (fun w' _ => by (go_simp; try rfl))) ?_
      (try simp only [Act.put, List.getElem_toArray, List.getElem_cons_succ, List.getElem_cons_zero, List.setIfInBounds_toArray, List.set_cons_zero, List.set_cons_succ])
      refine wpLA_take (.slice A72 ((dg (hv)).length) c72) (yG_val _ (by rfl) (fun w' _ => by (go_simp; try rfl))) ?_
      (try simp only [Act.put, List.getElem_toArray, List.getElem_cons_succ, List.getElem_cons_zero, List.setIfInBounds_toArray, List.set_cons_zero, List.set_cons_succ])
      refine wpLA_big (1) (by rfl) (fun w' => by go_simp) (fun w' hb => K1.out w') ?_
      intro A81 c81 w81 hb hs
      have S81 : Hid (St w w81 [(p2, vx, PT)] [(A81, c81, ivs (dg (1))), (A72, c72, ivs (dg (hv))), (A71, c71, bvs (B2)), (A69, c69, ivs (dg (s.val))), (A67, c67, ivs (dg e2)), (B67, d67, ivs (dg r2)), (A66, c66, ivs (dg (2))), (A65, c65, ivs (dg (Pn))), (A63, c63, ivs (dg (Pn))), (A61, c61, ivs (dg (y.val))), ((some ⟨g, 0, none⟩), cl, bvs (a ++ [y']))]) := hid ((S73.out.on hb).more hs)
      clear hb hs S73
      (try simp only [Act.put, List.getElem_toArray, List.getElem_cons_succ, List.getElem_cons_zero, List.setIfInBounds_toArray, List.set_cons_zero, List.set_cons_succ])
      refine wpLA_take (.bool true) (yG_call (by rfl) (fun w' => by go_simp) (fun w' hb => KSm.out _ _ _ _ w' (S81.out.on hb).sq.2.1 (S81.out.on hb).sq.1)) ?_
      (try simp only [Act.put, List.getElem_toArray, List.getElem_cons_succ, List.getElem_cons_zero, List.setIfInBounds_toArray, List.set_cons_zero, List.set_cons_succ])
      refine wpLA_take (.bool true) (yG_val _ (by rfl) (fun w' _ => by (go_simp; try rfl))) ?_
      (try simp only [Act.put, List.getElem_toArray, List.getElem_cons_succ, List.getElem_cons_zero, List.setIfInBounds_toArray, List.set_cons_zero, List.set_cons_succ])
      refine wpLA_take (.bool true) (yG_val _ (by rfl) (fun w' _ => by (go_simp; try rfl))) ?_
      (try simp only [Act.put, List.getElem_toArray, List.getElem_cons_succ, List.getElem_cons_zero, List.setIfInBounds_toArray, List.set_cons_zero, List.set_cons_succ])
      refine wpLA_take (.bool true) (yG_val _ (by rfl) (fun w' _ => by (go_simp; try rfl))) ?_
      (try simp only [Act.put, List.getElem_toArray, List.getElem_cons_succ, List.getElem_cons_zero, List.setIfInBounds_toArray, List.set_cons_zero, List.set_cons_succ])
      refine wpLA_end ?_
      intro w82 hb
      have S82 := hid (S81.out.on hb)
      clear hb S81
      go_upto_region 17 with fail
      refine wpLA_start ?_
      refine wpLA_take (.bool true) (yG_val _ (by rfl) (fun w' _ => by (go_simp; try rfl))) ?_
      (try simp only [Act.put, List.getElem_toArray, List.getElem_cons_succ, List.getElem_cons_zero, List.setIfInBounds_toArray, List.set_cons_zero, List.set_cons_succ])
      refine wpLA_take (.bool true) (yG_val _ (by rfl) (fun w' _ => by (go_simp; try rfl))) ?_
      (try simp only [Act.put, List.getElem_toArray, List.getElem_cons_succ, List.getElem_cons_zero, List.setIfInBounds_toArray, List.set_cons_zero, List.set_cons_succ])
      refine wpLA_take (.bool false) (yG_val _ (by rfl) (fun w' _ => by (go_simp; try rfl))) ?_
      (try simp only [Act.put, List.getElem_toArray, List.getElem_cons_succ, List.getElem_cons_zero, List.setIfInBounds_toArray, List.set_cons_zero, List.set_cons_succ])
      refine wpLA_end ?_
      intro w83 hb
      have S83 := hid (S82.out.on hb)
      clear hb S82
      go_upto_region 19 with fail
      refine wpLA_start ?_
      refine wpLA_take (.bool true) (yG_val _ (by rfl) (fun w' _ => by (go_simp; try rfl))) ?_
      (try simp only [Act.put, List.getElem_toArray, List.getElem_cons_succ, List.getElem_cons_zero, List.setIfInBounds_toArray, List.set_cons_zero, List.set_cons_succ])
      refine wpLA_take (.bool false) (yG_val _ (by rfl) (fun w' _ => by (go_simp; try rfl))) ?_
      (try simp only [Act.put, List.getElem_toArray, List.getElem_cons_succ, List.getElem_cons_zero, List.setIfInBounds_toArray, List.set_cons_zero, List.set_cons_succ])
      refine wpLA_take (.bool false) (yG_val _ (by rfl) (fun w' _ => by (go_simp; try rfl))) ?_
      (try simp only [Act.put, List.getElem_toArray, List.getElem_cons_succ, List.getElem_cons_zero, List.setIfInBounds_toArray, List.set_cons_zero, List.set_cons_succ])
      refine wpLA_take (.agg (vx)) (yG_part (by rfl) PT (.tmp 3) rfl p2 0 rfl PT (vx) (vx) (0, 0) _ S83.out.cl.1 HVX.out.all Try.underlying28 rfl HVX.out.info) ?_
      (try simp only [Act.put, List.getElem_toArray, List.getElem_cons_succ, List.getElem_cons_zero, List.setIfInBounds_toArray, List.set_cons_zero, List.set_cons_succ])
      have LB := CvBytes HVX.out
      refine wpLA_bytes (pB p) (by rfl) (fun w' => by go_simp) (fun w' hb => LB.out w') ?_
      intro A84 c84 w84 hb hs
      have S84 : Hid (St w w84 [(p2, vx, PT)] [(A84, c84, bvs (pB p)), (A81, c81, ivs (dg (1))), (A72, c72, ivs (dg (hv))), (A71, c71, bvs (B2)), (A69, c69, ivs (dg (s.val))), (A67, c67, ivs (dg e2)), (B67, d67, ivs (dg r2)), (A66, c66, ivs (dg (2))), (A65, c65, ivs (dg (Pn))), (A63, c63, ivs (dg (Pn))), (A61, c61, ivs (dg (y.val))), ((some ⟨g, 0, none⟩), cl, bvs (a ++ [y']))]) := hid ((S83.out.on hb).more hs)
      clear hb hs S83
      (try simp only [Act.put, List.getElem_toArray, List.getElem_cons_succ, List.getElem_cons_zero, List.setIfInBounds_toArray, List.set_cons_zero, List.set_cons_succ])
      refine wpLA_take (.slice (some ⟨bk, bo, none⟩) 32 c) (yG_val _ (by rfl) (fun w' _ => by (go_simp; try rfl))) ?_
      (try simp only [Act.put, List.getElem_toArray, List.getElem_cons_succ, List.getElem_cons_zero, List.setIfInBounds_toArray, List.set_cons_zero, List.set_cons_succ])
      have KSB : Hid (∀ A1 c1 W, Sq W W.heap.size A1 c1 (bvs (pB p)) → Sq W W.heap.size (some ⟨bk, bo, none⟩) c (bvs xs) → Calls Try.prog 20 #[.slice A1 ((pB p).length) c1, .slice (some ⟨bk, bo, none⟩) 32 c] W fun e w1 => e = .returned (.bool true) ∧ Below W.heap.size W w1) := hid fun A1 c1 W h h2 => by have h3 := same_is A1 (pB p) c1 ((pB p).length) (some ⟨bk, bo, none⟩) xs c 32 W h h2 rfl HXL.out (by rw [pB_length]; omega); rw [show (pB p == xs) = true by rw [HPB.out]; exact beq_self_eq_true _] at h3; exact h3
      refine wpLA_take (.bool true) (yG_call (by rfl) (fun w' => by go_simp) (fun w' hb => KSB.out _ _ w' (S84.out.on hb).sq.1 (HS.out.on6 ((S84.out.on hb).below)))) ?_
      (try simp only [Act.put, List.getElem_toArray, List.getElem_cons_succ, List.getElem_cons_zero, List.setIfInBounds_toArray, List.set_cons_zero, List.set_cons_succ])
      refine wpLA_take (.bool true) (yG_val _ (by rfl) (fun w' _ => by (go_simp; try rfl))) ?_
      (try simp only [Act.put, List.getElem_toArray, List.getElem_cons_succ, List.getElem_cons_zero, List.setIfInBounds_toArray, List.set_cons_zero, List.set_cons_succ])
      refine wpLA_take (.agg (vx)) (yG_part (by rfl) PT (.tmp 3) rfl p2 0 rfl PT (vx) (vx) (0, 0) _ S84.out.cl.1 HVX.out.all Try.underlying28 rfl HVX.out.info) ?_
      (try simp only [Act.put, List.getElem_toArray, List.getElem_cons_succ, List.getElem_cons_zero, List.setIfInBounds_toArray, List.set_cons_zero, List.set_cons_succ])
      have KR := CvRight HVX.out
      refine wpLA_take (.bool true) (yG_call (by rfl) (fun w' => by go_simp) (fun w' hb => KR.out w')) ?_
      (try simp only [Act.put, List.getElem_toArray, List.getElem_cons_succ, List.getElem_cons_zero, List.setIfInBounds_toArray, List.set_cons_zero, List.set_cons_succ])
      refine wpLA_take (.bool true) (yG_val _ (by rfl) (fun w' _ => by (go_simp; try rfl))) ?_
      (try simp only [Act.put, List.getElem_toArray, List.getElem_cons_succ, List.getElem_cons_zero, List.setIfInBounds_toArray, List.set_cons_zero, List.set_cons_succ])
      refine wpLA_take (.bool true) (yG_val _ (by rfl) (fun w' _ => by (go_simp; try rfl))) ?_
      (try simp only [Act.put, List.getElem_toArray, List.getElem_cons_succ, List.getElem_cons_zero, List.setIfInBounds_toArray, List.set_cons_zero, List.set_cons_succ])
      refine wpLA_take (.bool true) (yG_val _ (by rfl) (fun w' _ => by (go_simp; try rfl))) ?_
      (try simp only [Act.put, List.getElem_toArray, List.getElem_cons_succ, List.getElem_cons_zero, List.setIfInBounds_toArray, List.set_cons_zero, List.set_cons_succ])
      refine wpLA_end ?_
      intro w85 hb
      have S85 := hid (S84.out.on hb)
      clear hb S84
      go_wp2_with fail
      go_ret
      exact ⟨rfl, S85.out.below⟩
    · have hd : decide (hv = 1) = false := decide_eq_false hh
      rw [hd] at KSm
      have hb : bx = false := by
        cases hb : bx with
        | false => rfl
        | true => exact absurd (hw.1 hb) (fun h => by rcases h with h | h; exact hs0 h.1; exact hh h.2)
      clear HBX
      subst hb
      clear hw
      clear hs0 hh hd
      go_upto_region 16 with fail
      refine wpLA_start ?_
      refine wpLA_take (.slice A69 ((dg (s.val)).length) c69) (yG_val _ (by rfl) (fun w' _ => by (go_simp; try rfl))) ?_
      (try simp only [Act.put, List.getElem_toArray, List.getElem_cons_succ, List.getElem_cons_zero, List.setIfInBounds_toArray, List.set_cons_zero, List.set_cons_succ])
      refine wpLA_take (.int .i64 (((dg (s.val)).length : Nat))) (yG_val _ (by rfl) (fun w' _ => by (go_simp; try rfl))) ?_
      (try simp only [Act.put, List.getElem_toArray, List.getElem_cons_succ, List.getElem_cons_zero, List.setIfInBounds_toArray, List.set_cons_zero, List.set_cons_succ])
      refine wpLA_take (.bool false) (yG_val _ (by rfl) (fun w' _ => by (have hd := HDL.out; go_simp; intro hnil; rw [hnil] at hd; exact absurd hd (by decide)))) ?_
      (try simp only [Act.put, List.getElem_toArray, List.getElem_cons_succ, List.getElem_cons_zero, List.setIfInBounds_toArray, List.set_cons_zero, List.set_cons_succ])
      refine wpLA_take (.bool false) (yG_val _ (by rfl) (fun w' _ => by (go_simp; try rfl))) ?_
      (try simp only [Act.put, List.getElem_toArray, List.getElem_cons_succ, List.getElem_cons_zero, List.setIfInBounds_toArray, List.set_cons_zero, List.set_cons_succ])
      refine wpLA_take undef (yG_skip (by rfl)) ?_
      (try simp only [Act.put, List.getElem_toArray, List.getElem_cons_succ, List.getElem_cons_zero, List.setIfInBounds_toArray, List.set_cons_zero, List.set_cons_succ])
      refine wpLA_take undef (yG_skip (by rfl)) ?_
      (try simp only [Act.put, List.getElem_toArray, List.getElem_cons_succ, List.getElem_cons_zero, List.setIfInBounds_toArray, List.set_cons_zero, List.set_cons_succ])
      refine wpLA_take undef (yG_skip (by rfl)) ?_
      (try simp only [Act.put, List.getElem_toArray, List.getElem_cons_succ, List.getElem_cons_zero, List.setIfInBounds_toArray, List.set_cons_zero, List.set_cons_succ])
      refine wpLA_take undef (yG_skip (by rfl)) ?_
      (try simp only [Act.put, List.getElem_toArray, List.getElem_cons_succ, List.getElem_cons_zero, List.setIfInBounds_toArray, List.set_cons_zero, List.set_cons_succ])
      refine wpLA_take (.bool false) (yG_val _ (by rfl) (fun w' _ => by (go_simp; try rfl))) ?_
      (try simp only [Act.put, List.getElem_toArray, List.getElem_cons_succ, List.getElem_cons_zero, List.setIfInBounds_toArray, List.set_cons_zero, List.set_cons_succ])
      refine wpLA_take (.bool false) (yG_val _ (by rfl) (fun w' _ => by (go_simp; try rfl))) ?_
      (try simp only [Act.put, List.getElem_toArray, List.getElem_cons_succ, List.getElem_cons_zero, List.setIfInBounds_toArray, List.set_cons_zero, List.set_cons_succ])
      refine wpLA_take (.slice A69 ((dg (s.val)).length) c69) (yG_val _ (by rfl) (fun w' _ => by (go_simp; try rfl))) ?_
      (try simp only [Act.put, List.getElem_toArray, List.getElem_cons_succ, List.getElem_cons_zero, List.setIfInBounds_toArray, List.set_cons_zero, List.set_cons_succ])
      refine wpLA_take (.int .i64 (((dg (s.val)).length : Nat))) (yG_val _ (by rfl) (fun w' _ => by (go_simp; try rfl))) ?_
      (try simp only [Act.put, List.getElem_toArray, List.getElem_cons_succ, List.getElem_cons_zero, List.setIfInBounds_toArray, List.set_cons_zero, List.set_cons_succ])
      refine wpLA_take (.bool true) (yG_val _ (by rfl) (fun w' _ => by (have hd := HDL.out; go_simp; try simp [hd]; try omega))) ?_
      (try simp only [Act.put, List.getElem_toArray, List.getElem_cons_succ, List.getElem_cons_zero, List.setIfInBounds_toArray, List.set_cons_zero, List.set_cons_succ])
      refine wpLA_take (.bool true) (yG_val _ (by rfl) (fun w' _ => by (go_simp; try rfl))) ?_
      (try simp only [Act.put, List.getElem_toArray, List.getElem_cons_succ, List.getElem_cons_zero, List.setIfInBounds_toArray, List.set_cons_zero, List.set_cons_succ])
      refine wpLA_take (.slice A72 ((dg (hv)).length) c72) (yG_val _ (by rfl) (fun w' _ => by (go_simp; try rfl))) ?_
      (try simp only [Act.put, List.getElem_toArray, List.getElem_cons_succ, List.getElem_cons_zero, List.setIfInBounds_toArray, List.set_cons_zero, List.set_cons_succ])
      refine wpLA_big (1) (by rfl) (fun w' => by go_simp) (fun w' hb => K1.out w') ?_
      intro A86 c86 w86 hb hs
      have S86 : Hid (St w w86 [(p2, vx, PT)] [(A86, c86, ivs (dg (1))), (A72, c72, ivs (dg (hv))), (A71, c71, bvs (B2)), (A69, c69, ivs (dg (s.val))), (A67, c67, ivs (dg e2)), (B67, d67, ivs (dg r2)), (A66, c66, ivs (dg (2))), (A65, c65, ivs (dg (Pn))), (A63, c63, ivs (dg (Pn))), (A61, c61, ivs (dg (y.val))), ((some ⟨g, 0, none⟩), cl, bvs (a ++ [y']))]) := hid ((S73.out.on hb).more hs)
      clear hb hs S73
      (try simp only [Act.put, List.getElem_toArray, List.getElem_cons_succ, List.getElem_cons_zero, List.setIfInBounds_toArray, List.set_cons_zero, List.set_cons_succ])
      refine wpLA_take (.bool false) (yG_call (by rfl) (fun w' => by go_simp) (fun w' hb => KSm.out _ _ _ _ w' (S86.out.on hb).sq.2.1 (S86.out.on hb).sq.1)) ?_
      (try simp only [Act.put, List.getElem_toArray, List.getElem_cons_succ, List.getElem_cons_zero, List.setIfInBounds_toArray, List.set_cons_zero, List.set_cons_succ])
      refine wpLA_take (.bool false) (yG_val _ (by rfl) (fun w' _ => by (go_simp; try rfl))) ?_
      (try simp only [Act.put, List.getElem_toArray, List.getElem_cons_succ, List.getElem_cons_zero, List.setIfInBounds_toArray, List.set_cons_zero, List.set_cons_succ])
      refine wpLA_take (.bool false) (yG_val _ (by rfl) (fun w' _ => by (go_simp; try rfl))) ?_
      (try simp only [Act.put, List.getElem_toArray, List.getElem_cons_succ, List.getElem_cons_zero, List.setIfInBounds_toArray, List.set_cons_zero, List.set_cons_succ])
      refine wpLA_take (.bool false) (yG_val _ (by rfl) (fun w' _ => by (go_simp; try rfl))) ?_
      (try simp only [Act.put, List.getElem_toArray, List.getElem_cons_succ, List.getElem_cons_zero, List.setIfInBounds_toArray, List.set_cons_zero, List.set_cons_succ])
      refine wpLA_end ?_
      intro w87 hb
      have S87 := hid (S86.out.on hb)
      clear hb S86
      go_upto_region 17 with fail
      refine wpLA_start ?_
      refine wpLA_take (.bool false) (yG_val _ (by rfl) (fun w' _ => by (go_simp; try rfl))) ?_
      (try simp only [Act.put, List.getElem_toArray, List.getElem_cons_succ, List.getElem_cons_zero, List.setIfInBounds_toArray, List.set_cons_zero, List.set_cons_succ])
      refine wpLA_take (.bool false) (yG_val _ (by rfl) (fun w' _ => by (go_simp; try rfl))) ?_
      (try simp only [Act.put, List.getElem_toArray, List.getElem_cons_succ, List.getElem_cons_zero, List.setIfInBounds_toArray, List.set_cons_zero, List.set_cons_succ])
      refine wpLA_take (.bool false) (yG_val _ (by rfl) (fun w' _ => by (go_simp; try rfl))) ?_
      (try simp only [Act.put, List.getElem_toArray, List.getElem_cons_succ, List.getElem_cons_zero, List.setIfInBounds_toArray, List.set_cons_zero, List.set_cons_succ])
      refine wpLA_end ?_
      intro w88 hb
      have S88 := hid (S87.out.on hb)
      clear hb S87
      go_upto_region 19 with fail
      refine wpLA_start ?_
      refine wpLA_take (.bool false) (yG_val _ (by rfl) (fun w' _ => by (go_simp; try rfl))) ?_
      (try simp only [Act.put, List.getElem_toArray, List.getElem_cons_succ, List.getElem_cons_zero, List.setIfInBounds_toArray, List.set_cons_zero, List.set_cons_succ])
      refine wpLA_take (.bool true) (yG_val _ (by rfl) (fun w' _ => by (go_simp; try rfl))) ?_
      (try simp only [Act.put, List.getElem_toArray, List.getElem_cons_succ, List.getElem_cons_zero, List.setIfInBounds_toArray, List.set_cons_zero, List.set_cons_succ])
      refine wpLA_take (.bool true) (yG_val _ (by rfl) (fun w' _ => by (go_simp; try rfl))) ?_
      (try simp only [Act.put, List.getElem_toArray, List.getElem_cons_succ, List.getElem_cons_zero, List.setIfInBounds_toArray, List.set_cons_zero, List.set_cons_succ])
      refine wpLA_take undef (yG_skip (by rfl)) ?_
      (try simp only [Act.put, List.getElem_toArray, List.getElem_cons_succ, List.getElem_cons_zero, List.setIfInBounds_toArray, List.set_cons_zero, List.set_cons_succ])
      refine wpLA_take undef (yG_skip (by rfl)) ?_
      (try simp only [Act.put, List.getElem_toArray, List.getElem_cons_succ, List.getElem_cons_zero, List.setIfInBounds_toArray, List.set_cons_zero, List.set_cons_succ])
      refine wpLA_take undef (yG_skip (by rfl)) ?_
      (try simp only [Act.put, List.getElem_toArray, List.getElem_cons_succ, List.getElem_cons_zero, List.setIfInBounds_toArray, List.set_cons_zero, List.set_cons_succ])
      refine wpLA_take undef (yG_skip (by rfl)) ?_
      (try simp only [Act.put, List.getElem_toArray, List.getElem_cons_succ, List.getElem_cons_zero, List.setIfInBounds_toArray, List.set_cons_zero, List.set_cons_succ])
      refine wpLA_take undef (yG_skip (by rfl)) ?_
      (try simp only [Act.put, List.getElem_toArray, List.getElem_cons_succ, List.getElem_cons_zero, List.setIfInBounds_toArray, List.set_cons_zero, List.set_cons_succ])
      refine wpLA_take undef (yG_skip (by rfl)) ?_
      (try simp only [Act.put, List.getElem_toArray, List.getElem_cons_succ, List.getElem_cons_zero, List.setIfInBounds_toArray, List.set_cons_zero, List.set_cons_succ])
      refine wpLA_take undef (yG_skip (by rfl)) ?_
      (try simp only [Act.put, List.getElem_toArray, List.getElem_cons_succ, List.getElem_cons_zero, List.setIfInBounds_toArray, List.set_cons_zero, List.set_cons_succ])
      refine wpLA_take undef (yG_skip (by rfl)) ?_
      (try simp only [Act.put, List.getElem_toArray, List.getElem_cons_succ, List.getElem_cons_zero, List.setIfInBounds_toArray, List.set_cons_zero, List.set_cons_succ])
      refine wpLA_take (.bool true) (yG_val _ (by rfl) (fun w' _ => by (go_simp; try rfl))) ?_
      (try simp only [Act.put, List.getElem_toArray, List.getElem_cons_succ, List.getElem_cons_zero, List.setIfInBounds_toArray, List.set_cons_zero, List.set_cons_succ])
      refine wpLA_take (.bool true) (yG_val _ (by rfl) (fun w' _ => by (go_simp; try rfl))) ?_
      (try simp only [Act.put, List.getElem_toArray, List.getElem_cons_succ, List.getElem_cons_zero, List.setIfInBounds_toArray, List.set_cons_zero, List.set_cons_succ])
      refine wpLA_end ?_
      intro w89 hb
      have S89 := hid (S88.out.on hb)
      clear hb S88
      go_wp2_with fail
      go_ret
      exact ⟨rfl, S89.out.below⟩
end Go.Proofs.Ytealegfmmeklcaa
