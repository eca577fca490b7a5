/-
  Texts of this claim in one file: ScL.
-/
import Derived.Test.YtgehfbcagaaggaaGreatDoorPk38
import Derived.Test.YtgehfbcagaaggaaGreatDoorPk39
section
namespace Go.Proofs.YtgehfbcagaaggaaGreatDoor
open Go Go.RowKit
set_option linter.unusedVariables false
set_option linter.unusedSimpArgs false
theorem ordL_big : 2 * ordL < 115792089237316195423570985008687907853269984665640564039457584007913129639936 := by decide +kernel
theorem ordL_pos : 0 < ordL := by decide +kernel
/-- Two blocks. -/
theorem Cl_two (w : World) (X Y : Array Value) : Cl ((w.alloc (.cells X ST)).alloc (.cells Y ST)) [(w.heap.size, X, ST), (w.heap.size + 1, Y, ST)] :=
  ⟨blkA (blkN rfl X ST) _, blkN (by simp) Y ST, trivial⟩
theorem Cl_three (w : World) (X Y Z : Array Value) : Cl (((w.alloc (.cells X ST)).alloc (.cells Y ST)).alloc (.cells Z ST)) [(w.heap.size, X, ST), (w.heap.size + 1, Y, ST), (w.heap.size + 1 + 1, Z, ST)] :=
  ⟨blkA (blkA (blkN rfl X ST) _) _, blkA (blkN (by simp) Y ST) _, blkN (by simp) Z ST, trivial⟩
theorem bor_neg (x y : Nat) : IntKind.u64.wrap (-(bor x y : Int)) = (maskN (decide (x < y)) : Int) := by
  unfold bor maskN
  by_cases h : x < y <;> simp only [h, if_true, if_false, decide_true, decide_false] <;> rw [IntKind.wrap_u64] <;> rfl
theorem bor_dec (x y : Nat) : IntKind.u64.wrap ((bor x y : Int) - 1) = (maskN (!decide (x < y)) : Int) := by
  unfold bor maskN
  by_cases h : x < y <;> simp only [h, if_true, if_false, decide_true, decide_false] <;> rw [IntKind.wrap_u64] <;> rfl
theorem below_num {x : Nat} (h : x < 2 * ordL) : (if decide (x < ordL) then x else 0) + (if !decide (x < ordL) then (x + 115792089237316195423570985008687907853269984665640564039457584007913129639936 - ordL) % 115792089237316195423570985008687907853269984665640564039457584007913129639936 else 0) = x % ordL := by
  have hb := ordL_big
  by_cases hl : x < ordL
  · simp [hl, Nat.mod_eq_of_lt]
  · have e : (x + 115792089237316195423570985008687907853269984665640564039457584007913129639936 - ordL) % 115792089237316195423570985008687907853269984665640564039457584007913129639936 = x - ordL := by omega
    rw [e]
    have e2 : x % ordL = x - ordL := by rw [Nat.mod_eq_sub_mod (by omega), Nat.mod_eq_of_lt (by omega)]
    rw [e2]
    simp [hl]
set_option maxHeartbeats 1000000 in
theorem below_s (x : Nat) (w : World) (h : x < 2 * ordL) : Calls Tryz.prog 71 #[.agg (sA x)] w (ScR w (x % ordL)) := by
  have hp := ordL_big
  have hn := below_num h
  obtain ⟨D, hD⟩ : ∃ D, D = (x + 115792089237316195423570985008687907853269984665640564039457584007913129639936 - ordL) % 115792089237316195423570985008687907853269984665640564039457584007913129639936 := ⟨_, rfl⟩
  have hDl : D < 115792089237316195423570985008687907853269984665640564039457584007913129639936 := by rw [hD]; exact Nat.mod_lt _ (by omega)
  have K2 : Hid (∀ W, Calls Tryz.prog 98 #[.agg (sA x), .agg (sA ordL)] W fun e w' => e = .returned (.tuple #[.agg (sA D), .int .u64 (bor x ordL : Int)]) ∧ Below W.heap.size W w') := hid fun W => by rw [hD]; exact difference_s x ordL W (by omega) (by omega)
  rw [← hD] at hn
  have hk1 := bor_neg x ordL
  have hk2 := bor_dec x ordL
  generalize bor x ordL = m at *
  generalize decide (x < ordL) = b at *
  obtain ⟨r, hr⟩ : ∃ r, r = x % ordL := ⟨_, rfl⟩
  have hrl : r < 2 * ordL := by rw [hr]; have := Nat.mod_lt x ordL_pos; omega
  rw [← hr] at hn ⊢
  have K1 : Hid (∀ W, Calls Tryz.prog 99 #[] W fun e w' => e = .returned (.agg (sA ordL)) ∧ Below W.heap.size W w') := hid fun W => order_s W
  have K3 : Hid (∀ W, Calls Tryz.prog 100 #[.agg (sA x), .int .u64 (maskN b : Int)] W fun e w' => e = .returned (.agg (sA (if b then x else 0))) ∧ Below W.heap.size W w') := hid fun W => only_s x b W (by omega)
  have K4 : Hid (∀ W, Calls Tryz.prog 100 #[.agg (sA D), .int .u64 (maskN (!b) : Int)] W fun e w' => e = .returned (.agg (sA (if !b then D else 0))) ∧ Below W.heap.size W w') := hid fun W => only_s D (!b) W hDl
  have K5 : Hid (∀ W, Calls Tryz.prog 72 #[.agg (sA (if b then x else 0)), .agg (sA (if !b then D else 0))] W fun e w' => e = .returned (.agg (sA r)) ∧ Below W.heap.size W w') := hid fun W => by
    have := sum_s (if b then x else 0) (if !b then D else 0) W (by rw [hn]; omega)
    rw [hn] at this; exact this
  generalize (if b then x else 0) = u at *
  generalize (if !b then D else 0) = v at *
  generalize hm1 : maskN b = m1 at *
  generalize hm2 : maskN (!b) = m2 at *
  clear hm1 hm2 hp hD hDl hrl hr hn h
  have F0 := hid (Cl_two w (sA x) z4)
  have HB0 : Hid (Below w.heap.size w ((w.alloc (.cells (sA x) ST)).alloc (.cells z4 ST))) := hid (((Below.refl _ _).alloc (Nat.le_refl _) _).alloc (by simp) _)
  go_enter Tryz.func71, Tryz.ntmps71
  go_wp2_with fail
  generalize hw1 : ((w.alloc (.cells (sA x) ST)).alloc (.cells z4 ST)) = w1 at F0 HB0 ⊢
  clear hw1
  generalize hb1 : w.heap.size + 1 = b1 at F0 ⊢
  generalize hb0 : w.heap.size = b0 at F0 HB0 ⊢
  have HL : Hid (b0 ≤ b1 ∧ b1 < w1.heap.size) := hid ⟨by omega, block_lt F0.out.2.1⟩
  have HBw := hid hb0
  clear hb0 hb1
  refine wp_region_gsA 8 (by kernel_rfl) (by decide) ?_
  refine wpGsA_take (i := 0) (.agg (sA x)) rfl (by kernel_rfl) (by kernel_rfl) (fun _ _ _ h => h) (yieldsG_part rfl ST (.tmp 1) rfl b0 0 rfl ST (sA x) (sA x) (0, 0) _ F0.out.1 (sA_all _) Tryz.underlying62 rfl (infoSA _)) ?_
  (try simp only [Act.put, List.getElem_toArray, List.getElem_cons_succ, List.getElem_cons_zero, List.setIfInBounds_toArray, List.set_cons_zero, List.set_cons_succ])
  refine wpGsA_take (i := 1) (.agg (sA ordL)) rfl (by kernel_rfl) (by kernel_rfl) (fun _ _ _ h => h) (yieldsG_call rfl (fun w' => by go_simp) (fun w' _ => K1.out w')) ?_
  (try simp only [Act.put, List.getElem_toArray, List.getElem_cons_succ, List.getElem_cons_zero, List.setIfInBounds_toArray, List.set_cons_zero, List.set_cons_succ])
  refine wpGsA_take (i := 2) (.tuple #[.agg (sA D), .int .u64 (m : Int)]) rfl (by kernel_rfl) (by kernel_rfl) (fun _ _ _ h => h) (yieldsG_call rfl (fun w' => by go_simp) (fun w' _ => K2.out w')) ?_
  (try simp only [Act.put, List.getElem_toArray, List.getElem_cons_succ, List.getElem_cons_zero, List.setIfInBounds_toArray, List.set_cons_zero, List.set_cons_succ])
  refine wpGsA_take (i := 3) (.tuple #[.agg (sA D), .int .u64 (m : Int)]) rfl (by kernel_rfl) (by kernel_rfl) (fun _ _ _ h => h) (yieldsG_val _ rfl (fun w' _ => by go_simp)) ?_
  (try simp only [Act.put, List.getElem_toArray, List.getElem_cons_succ, List.getElem_cons_zero, List.setIfInBounds_toArray, List.set_cons_zero, List.set_cons_succ])
  refine wpGsA_take (i := 4) (.agg (sA D)) rfl (by kernel_rfl) (by kernel_rfl) (fun _ _ _ h => h) (yieldsG_val _ rfl (fun w' _ => by go_simp)) ?_
  (try simp only [Act.put, List.getElem_toArray, List.getElem_cons_succ, List.getElem_cons_zero, List.setIfInBounds_toArray, List.set_cons_zero, List.set_cons_succ])
  refine wpGsA_take (i := 5) (.int .u64 (m : Int)) rfl (by kernel_rfl) (by kernel_rfl) (fun _ _ _ h => h) (yieldsG_val _ rfl (fun w' _ => by go_simp)) ?_
  (try simp only [Act.put, List.getElem_toArray, List.getElem_cons_succ, List.getElem_cons_zero, List.setIfInBounds_toArray, List.set_cons_zero, List.set_cons_succ])
  refine wpGsA_alloc (i := 6) rfl rfl rfl zeroS (by kernel_rfl) ?_
  intro p wx hp h1 hb
  (try simp only [Act.put, List.getElem_toArray, List.getElem_cons_succ, List.getElem_cons_zero, List.setIfInBounds_toArray, List.set_cons_zero, List.set_cons_succ])
  refine wpGs_store (i := 7) rfl rfl ST (.tmp 3) (.tmp 9) rfl p (sA D) rfl rfl ST zS h1 (infoSA _) (sizeZS _) (oneSA _) hb hp (by kernel_rfl) ?_
  intro wy hby
  (try simp only [Act.put, List.getElem_toArray, List.getElem_cons_succ, List.getElem_cons_zero, List.setIfInBounds_toArray, List.set_cons_zero, List.set_cons_succ])
  refine wpGs_end (by kernel_rfl) ?_
  simp only [List.drop_succ_cons, List.drop_zero]
  have F2 := hid (((F0.out).new1 hb hp (X := (sA D)) h1).on hby)
  have HB2 : Hid (Below b0 w wy) := hid ((belowRow (HB0.out.trans (hb.mono (by have := HL.out; omega))) (by have := HL.out; omega) _).trans (hby.mono (by rw [size_setRow]; have := hb.size; have := HL.out; omega)))
  have HM2 : Hid (w1.heap.size ≤ wy.heap.size) := hid (by have := hby.size; rw [size_setRow] at this; exact Nat.le_trans hb.size this)
  clear hby hp h1 hb wx
  go_wp2_with fail
  refine wp_region_grA 9 (by kernel_rfl) (by decide) ?_
  refine wpGrA_take (i := 0) (.agg (sA x)) rfl (by kernel_rfl) (by kernel_rfl) (fun _ _ _ h => h) (yieldsG_part rfl ST (.tmp 1) rfl b0 0 rfl ST (sA x) (sA x) (0, 0) _ F2.out.2.1 (sA_all _) Tryz.underlying62 rfl (infoSA _)) ?_
  (try simp only [Act.put, List.getElem_toArray, List.getElem_cons_succ, List.getElem_cons_zero, List.setIfInBounds_toArray, List.set_cons_zero, List.set_cons_succ])
  refine wpGrA_take (i := 1) (.int .u64 (m : Int)) rfl (by kernel_rfl) (by kernel_rfl) (fun _ _ _ h => h) (yieldsG_val _ rfl (fun w' _ => by go_simp)) ?_
  (try simp only [Act.put, List.getElem_toArray, List.getElem_cons_succ, List.getElem_cons_zero, List.setIfInBounds_toArray, List.set_cons_zero, List.set_cons_succ])
  refine wpGrA_take (i := 2) (.int .u64 (m1 : Int)) rfl (by kernel_rfl) (by kernel_rfl) (fun _ _ _ h => h) (yieldsG_val _ rfl (fun w' _ => by go_simp)) ?_
  (try simp only [Act.put, List.getElem_toArray, List.getElem_cons_succ, List.getElem_cons_zero, List.setIfInBounds_toArray, List.set_cons_zero, List.set_cons_succ])
  refine wpGrA_take (i := 3) (.agg (sA u)) rfl (by kernel_rfl) (by kernel_rfl) (fun _ _ _ h => h) (yieldsG_call rfl (fun w' => by go_simp) (fun w' _ => K3.out w')) ?_
  (try simp only [Act.put, List.getElem_toArray, List.getElem_cons_succ, List.getElem_cons_zero, List.setIfInBounds_toArray, List.set_cons_zero, List.set_cons_succ])
  refine wpGrA_take (i := 4) (.agg (sA D)) rfl (by kernel_rfl) (by kernel_rfl) (fun _ _ _ h => h) (yieldsG_part rfl ST (.tmp 3) rfl p 0 rfl ST (sA D) (sA D) (0, 0) _ F2.out.1 (sA_all _) Tryz.underlying62 rfl (infoSA _)) ?_
  (try simp only [Act.put, List.getElem_toArray, List.getElem_cons_succ, List.getElem_cons_zero, List.setIfInBounds_toArray, List.set_cons_zero, List.set_cons_succ])
  refine wpGrA_take (i := 5) (.int .u64 (m : Int)) rfl (by kernel_rfl) (by kernel_rfl) (fun _ _ _ h => h) (yieldsG_val _ rfl (fun w' _ => by go_simp)) ?_
  (try simp only [Act.put, List.getElem_toArray, List.getElem_cons_succ, List.getElem_cons_zero, List.setIfInBounds_toArray, List.set_cons_zero, List.set_cons_succ])
  refine wpGrA_take (i := 6) (.int .u64 (m2 : Int)) rfl (by kernel_rfl) (by kernel_rfl) (fun _ _ _ h => h) (yieldsG_val _ rfl (fun w' _ => by go_simp)) ?_
  (try simp only [Act.put, List.getElem_toArray, List.getElem_cons_succ, List.getElem_cons_zero, List.setIfInBounds_toArray, List.set_cons_zero, List.set_cons_succ])
  refine wpGrA_take (i := 7) (.agg (sA v)) rfl (by kernel_rfl) (by kernel_rfl) (fun _ _ _ h => h) (yieldsG_call rfl (fun w' => by go_simp) (fun w' _ => K4.out w')) ?_
  (try simp only [Act.put, List.getElem_toArray, List.getElem_cons_succ, List.getElem_cons_zero, List.setIfInBounds_toArray, List.set_cons_zero, List.set_cons_succ])
  refine wpGrA_take (i := 8) (.agg (sA r)) rfl (by kernel_rfl) (by kernel_rfl) (fun _ _ _ h => h) (yieldsG_call rfl (fun w' => by go_simp) (fun w' _ => K5.out w')) ?_
  (try simp only [Act.put, List.getElem_toArray, List.getElem_cons_succ, List.getElem_cons_zero, List.setIfInBounds_toArray, List.set_cons_zero, List.set_cons_succ])
  refine wpGrA_end (by kernel_rfl) ?_
  intro w3 hb
  have Z : Hid (w3.heap[b1]? = some (.cells z4 ST (0, 0))) := hid ((Cl.on hb F2.out).2.2.1)
  have HB3 : Hid (Below b0 w (w3.setRow b1 (sA r))) := hid (belowRow (HB2.out.trans (hb.mono (by have := HM2.out; have := HL.out; omega))) (HL.out.1) _)
  simp only [List.drop_succ_cons, List.drop_zero]
  refine wpList_store_row rfl ST (.tmp 2) (.tmp 19) rfl b1 (sA r) rfl rfl ST z4 Z.out (infoSA _) (sizeZ4 _) (oneSA _) ?_
  (try simp only [Act.put, List.getElem_toArray, List.getElem_cons_succ, List.getElem_cons_zero, List.setIfInBounds_toArray, List.set_cons_zero, List.set_cons_succ])
  go_wp2_with fail
  refine bodyPost_ret (v := .agg (sA r)) (results_cell_row rfl _ _ b1 ST _ (0, 0) _ rfl (setRow_heap _ _ _ _ _ _ Z.out) Tryz.underlying62 rfl (infoSA _)) rfl ⟨rfl, ?_⟩
  rw [HBw.out]
  exact HB3.out
/-- Memory only grew. -/
theorem Cl.below {w w1 w2 : World} {l : List (Nat × Array Value × TypeId)} (h : Cl w1 l) (hb : Below w1.heap.size w1 w2) : Cl w2 l := h.on hb
theorem Add_s (x y : Nat) (w : World) (hx : x < ordL) (hy : y < ordL) :
    Calls Tryz.prog 45 #[.agg (sA x), .agg (sA y)] w (ScR w ((x + y) % ordL)) := by
  have hp := ordL_big
  have C1 := hid (fun W => sum_s x y W (by omega))
  have C2 := hid (fun W => below_s (x + y) W (by omega))
  unfold ScR at *
  have F := hid (Cl_three w (sA x) (sA y) z4)
  have X1 : Hid ((((w.alloc (.cells (sA x) ST)).alloc (.cells (sA y) ST)).alloc (.cells z4 ST)).heap[w.heap.size]? = some (.cells (sA x) ST (0, 0))) := hid F.out.1
  have Y1 : Hid ((((w.alloc (.cells (sA x) ST)).alloc (.cells (sA y) ST)).alloc (.cells z4 ST)).heap[w.heap.size + 1]? = some (.cells (sA y) ST (0, 0))) := hid F.out.2.1
  have B0 : Hid (Below w.heap.size w (((w.alloc (.cells (sA x) ST)).alloc (.cells (sA y) ST)).alloc (.cells z4 ST))) := hid ((((Below.refl _ _).alloc (Nat.le_refl _) _).alloc (by simp) _).alloc (by simp; omega) _)
  have SZ : Hid (w.heap.size ≤ (((w.alloc (.cells (sA x) ST)).alloc (.cells (sA y) ST)).alloc (.cells z4 ST)).heap.size) := hid (by simp; omega)
  clear hx hy hp
  go_enter Tryz.func45, Tryz.ntmps45
  go_wp2_with (first | (with_reducible refine wpList_load_row rfl ST (.tmp 2) rfl (w.heap.size) rfl ST (sA x) (0, 0) _ X1.out Tryz.underlying62 rfl (infoSA _) ?_) | (with_reducible refine wpList_load_row rfl ST (.tmp 3) rfl (w.heap.size + 1) rfl ST (sA y) (0, 0) _ Y1.out Tryz.underlying62 rfl (infoSA _) ?_))
  refine (C1.out _).mono ?_
  rintro e w1 ⟨rfl, hb⟩
  have F1 := hid (F.out.on hb)
  have B1 : Hid (Below w.heap.size w w1) := hid (B0.out.trans (hb.mono SZ.out))
  have S1 : Hid (w.heap.size ≤ w1.heap.size) := hid (Nat.le_trans SZ.out hb.size)
  clear hb F B0 SZ X1 Y1
  go_wp2_with fail
  refine (C2.out _).mono ?_
  rintro e w2 ⟨rfl, hb⟩
  have B2 : Hid (Below w.heap.size w w2) := hid (B1.out.trans (hb.mono S1.out))
  have Z : Hid (w2.heap[w.heap.size + 1 + 1]? = some (.cells z4 ST (0, 0))) := hid (F1.out.on hb).2.2.1
  clear hb F1 B1 S1
  go_wp2_with (with_reducible refine wpList_store_row rfl ST (.tmp 4) _ rfl (w.heap.size + 1 + 1) (sA ((x + y) % ordL)) rfl rfl ST z4 Z.out (infoSA _) (sizeZ4 _) (oneSA _) ?_)
  refine bodyPost_ret (v := .agg (sA ((x + y) % ordL))) (results_cell_row rfl _ _ (w.heap.size + 1 + 1) ST _ (0, 0) _ rfl (setRow_heap _ _ _ _ _ _ Z.out) Tryz.underlying62 rfl (infoSA _)) rfl ⟨rfl, ?_⟩
  exact belowRow B2.out (by omega) _
end Go.Proofs.YtgehfbcagaaggaaGreatDoor
end
