/-
  Texts of this claim in one file: AesG, AesH, AesI.
-/
import Derived.Test.YtpkmidaflnbobaaGreatDoorPk25
import Derived.Test.YtpkmidaflnbobaaGreatDoorPk19
import Derived.Test.YtpkmidaflnbobaaGreatDoorPk41
section
namespace Go.Proofs.YtpkmidaflnbobaaGreatDoor
open Go Go.RowKit
set_option linter.unusedVariables false
set_option linter.unusedSimpArgs false
theorem qF_all (f : Nat → Nat) : (qF f).extract 0 (0 + (qF f).size) = qF f := by simp
theorem infoQ (f : Nat → Nat) : (Tryz.prog.info? SQT).map (·.size) = some (qF f).size := info4Q.trans (congrArg some (qF_size _).symm)
theorem zeroQ : (Tryz.prog.info? SQT).map (fun i => (i.zero, i.size)) = some (some (.agg (qF fun _ => 0)), 4) := by kernel_rfl
theorem kF_part (ky : Nat → Nat) (n : Nat) (hn : n < 11) : (kF (wc ky)).extract (n * 4) (n * 4 + (qF (col (kW ky n))).size) = qF (col (kW ky n)) := by
  rw [qF_size]
  apply Array.ext
  · simp [kF_size, qF_size]; omega
  · intro i h1 h2
    have hi : i < 4 := by simpa [qF_size] using h2
    have e1 : (kF (wc ky))[n * 4 + i]? = some (.int .u32 (col (kW ky n) i : Int)) := by
      rw [kF_get _ _ (by omega), wc, show (n * 4 + i) / 4 = n by omega, show (n * 4 + i) % 4 = i by omega]
    have e2 := qF_get (col (kW ky n)) i hi
    rw [Array.getElem_extract]
    rw [Array.getElem?_eq_getElem (by rw [kF_size]; omega)] at e1
    rw [Array.getElem?_eq_getElem (by rw [qF_size]; omega)] at e2
    injection e1 with e1; injection e2 with e2
    rw [e1, e2]
theorem against_s (S T : Nat → Nat) (w : World) (hS : ∀ i, S i < 256) (hT : ∀ i, T i < 256) :
    Calls Tryz.prog 107 #[.agg (qF (col S)), .agg (qF (col T))] w fun e w' => e = .returned (.agg (qF (col fun i => S i ^^^ T i))) ∧ Below w.heap.size w w' := by
  have h := against_any (col S) (col T) w (fun k _ => col_lt hS k) (fun k _ => col_lt hT k)
  have e : (fun k => col S k ^^^ col T k) = col fun i => S i ^^^ T i := funext fun k => xor_col hS hT k
  rw [e] at h
  exact h
/-- A block behind n rounds. -/
def rd (ky sb : Nat → Nat) : Nat → Nat → Nat
  | 0 => fun i => sb i ^^^ kW ky 0 i
  | n + 1 => fun i => mixS (tur (boxS (rd ky sb n))) i ^^^ kW ky (n + 1) i
theorem rd_lt {ky sb : Nat → Nat} (hk : ∀ i, ky i < 256) (hs : ∀ i, sb i < 256) : ∀ n i, rd ky sb n i < 256
  | 0, i => xor_b (hs i) (hk i)
  | n + 1, i => xor_b (mixS_lt (tur_lt (boxS_lt (rd_lt hk hs n))) i) (kW_lt hk (n + 1) i)
/-- The sealed block. -/
def sealN (ky sb : Nat → Nat) (i : Nat) : Nat := tur (boxS (rd ky sb 9)) i ^^^ kW ky 10 i
theorem sealN_lt {ky sb : Nat → Nat} (hk : ∀ i, ky i < 256) (hs : ∀ i, sb i < 256) (i : Nat) : sealN ky sb i < 256 := xor_b (tur_lt (boxS_lt (rd_lt hk hs 9)) i) (kW_lt hk 10 i)
set_option maxRecDepth 100000 in
set_option maxHeartbeats 4000000 in
theorem sealed_any (ky sb : Nat → Nat) (w : World) (hk : ∀ i, ky i < 256) (hs : ∀ i, sb i < 256) :
    Calls Tryz.prog 82 #[.agg (kF (wc ky)), .agg (qF (col sb))] w fun e w' => e = .returned (.agg (qF (col (sealN ky sb)))) ∧ Below w.heap.size w w' := by
  have HKY := hid hk; have HSB := hid hs
  have KA0 : Hid (∀ W, Calls Tryz.prog 107 #[.agg (qF (col sb)), .agg (qF (col (kW ky 0)))] W fun e w' => e = .returned (.agg (qF (col (rd ky sb 0)))) ∧ Below W.heap.size W w') := hid fun W => against_s _ _ W hs hk
  clear hk hs
  go_enter Tryz.func82, Tryz.ntmps82
  have S0 : Hid (St w w [] []) := hid (St.start w)
  go_upto_region 0 with fail
  refine wpLA_start ?_
  refine wpLA_box (kF (wc ky)) (by rfl) rfl rfl ?_
  intro p1 w1 hp hz hb
  have S1 : Hid (St w w1 [(p1, kF (wc ky), KWT)] []) := hid (S0.out.alloc hb hp hz)
  clear hp hz hb S0
  (try simp only [Act.put, List.getElem_toArray, List.getElem_cons_succ, List.getElem_cons_zero, List.setIfInBounds_toArray, List.set_cons_zero, List.set_cons_succ])
  refine wpLA_box (qF (col sb)) (by rfl) rfl rfl ?_
  intro p2 w2 hp hz hb
  have S2 : Hid (St w w2 [(p2, qF (col sb), SQT), (p1, kF (wc ky), KWT)] []) := hid (S1.out.alloc hb hp hz)
  clear hp hz hb S1
  (try simp only [Act.put, List.getElem_toArray, List.getElem_cons_succ, List.getElem_cons_zero, List.setIfInBounds_toArray, List.set_cons_zero, List.set_cons_succ])
  refine wpLA_alloc (by rfl) rfl zeroQ ?_
  intro p3 w3 hp hz hb
  have S3 : Hid (St w w3 [(p3, qF fun _ => 0, SQT), (p2, qF (col sb), SQT), (p1, kF (wc ky), KWT)] []) := hid (S2.out.alloc hb hp hz)
  clear hp hz hb S2
  (try simp only [Act.put, List.getElem_toArray, List.getElem_cons_succ, List.getElem_cons_zero, List.setIfInBounds_toArray, List.set_cons_zero, List.set_cons_succ])
  refine wpLA_end ?_
  intro w4 hb
  have S4 := hid (S3.out.on hb)
  clear hb S3
  go_wp2_with fail
  refine wp_scope_at' 0 (fun a' w' => ∃ (m p2 p3 p4 : Nat) (u6 u7 u8 u9 u10 u11 u12 u13 u14 u15 u16 u17 u18 u19 u20 u21 u22 u23 u24 u25 u26 u27 : Value), a' = { tmps := (.agg (kF (wc ky)) :: .agg (qF (col sb)) :: .pointer (some ⟨p2, 0, none⟩) :: .pointer (some ⟨p3, 0, none⟩) :: .pointer (some ⟨p4, 0, none⟩) :: .int .i64 ((m + 1 : Nat) : Int) :: u6 :: u7 :: u8 :: u9 :: u10 :: u11 :: u12 :: u13 :: u14 :: u15 :: u16 :: u17 :: u18 :: u19 :: u20 :: u21 :: u22 :: u23 :: u24 :: u25 :: u26 :: u27 :: []).toArray, defers := [] } ∧ m ≤ 9 ∧ St w w' [(p4, qF fun _ => 0, SQT), (p3, qF (col (rd ky sb m)), SQT), (p2, kF (wc ky), KWT)] []) (fun a' _ => 11 - (intOf (a'.tmps.getD 5 undef)).toNat) rfl ?_ ?_
  · intro Qj hQr hQp hJ
    go_upto_region 1 with fail
    refine wpLA_start ?_
    refine wpLA_take (.agg (qF (col sb))) (yG_part (by rfl) SQT (.tmp 3) rfl p2 0 rfl SQT (qF (col sb)) (qF (col sb)) (0, 0) _ S4.out.cl.2.1 (qF_all _) Tryz.underlying95 rfl (infoQ _)) ?_
    (try simp only [Act.put, List.getElem_toArray, List.getElem_cons_succ, List.getElem_cons_zero, List.setIfInBounds_toArray, List.set_cons_zero, List.set_cons_succ])
    refine wpLA_take (.pointer (some ⟨p1, 0, none⟩)) (yG_val _ (by rfl) (fun w' _ => by (go_simp; try rfl))) ?_
    (try simp only [Act.put, List.getElem_toArray, List.getElem_cons_succ, List.getElem_cons_zero, List.setIfInBounds_toArray, List.set_cons_zero, List.set_cons_succ])
    refine wpLA_take (.agg (qF (col (kW ky 0)))) (yG_part (by rfl) SQT (.tmp 7) rfl p1 0 rfl KWT (kF (wc ky)) (qF (col (kW ky 0))) (0, 0) _ S4.out.cl.2.2.1 (kF_part ky 0 (by omega)) Tryz.underlying95 rfl (infoQ _)) ?_
    (try simp only [Act.put, List.getElem_toArray, List.getElem_cons_succ, List.getElem_cons_zero, List.setIfInBounds_toArray, List.set_cons_zero, List.set_cons_succ])
    refine wpLA_take (.agg (qF (col (rd ky sb 0)))) (yG_call (by rfl) (fun w' => by go_simp) (fun w' hb => KA0.out w')) ?_
    (try simp only [Act.put, List.getElem_toArray, List.getElem_cons_succ, List.getElem_cons_zero, List.setIfInBounds_toArray, List.set_cons_zero, List.set_cons_succ])
    refine wpLA_store rfl SQT (.tmp 3) (.tmp 9) rfl p2 (qF (col (rd ky sb 0))) rfl rfl SQT (qF (col sb)) S4.out.cl.2.1 (infoQ _) rfl (qF_one _) ?_
    intro wx hb
    have S5 : Hid (St w (wx.setRow p2 (qF (col (rd ky sb 0)))) [(p3, qF fun _ => 0, SQT), (p2, qF (col (rd ky sb 0)), SQT), (p1, kF (wc ky), KWT)] []) := hid ((S4.out.on hb).put0 1 rfl)
    clear hb S4
    generalize wx.setRow p2 (qF (col (rd ky sb 0))) = w5 at S5 ⊢
    (try simp only [Act.put, List.getElem_toArray, List.getElem_cons_succ, List.getElem_cons_zero, List.setIfInBounds_toArray, List.set_cons_zero, List.set_cons_succ])
    refine wpLA_end ?_
    intro w6 hb
    have S6 := hid (S5.out.on hb)
    clear hb S5
    go_upto_region 2 with fail
    refine wpLA_start ?_
    refine wpLA_take (.int .i64 1) (yG_val _ (by rfl) (fun w' _ => by (go_simp; try rfl))) ?_
    (try simp only [Act.put, List.getElem_toArray, List.getElem_cons_succ, List.getElem_cons_zero, List.setIfInBounds_toArray, List.set_cons_zero, List.set_cons_succ])
    refine wpLA_end ?_
    intro w7 hb
    have S7 := hid (S6.out.on hb)
    clear hb S6
    go_wp2_with fail
    refine wp_label ?_
    rename_i K hK
    refine hK _ _ (hJ _ _ ⟨0, p1, p2, p3, _, _, _, _, _, _, _, _, _, _, _, _, _, _, _, _, _, _, _, _, _, _, rfl, by omega, S7.out⟩)
  · rintro a' w' ⟨m, p2, p3, p4, u6, u7, u8, u9, u10, u11, u12, u13, u14, u15, u16, u17, u18, u19, u20, u21, u22, u23, u24, u25, u26, u27, rfl, hm, hS⟩
    have HS := hid hS
    clear hS KA0
    by_cases hm9 : m = 9
    · subst hm9
      obtain ⟨X, hX⟩ : ∃ X, X = rd ky sb 9 := ⟨_, rfl⟩
      have hXl : ∀ i, X i < 256 := by rw [hX]; exact rd_lt HKY.out HSB.out _
      rw [← hX] at HS
      have KB : Hid (∀ W, _) := hid fun W => sqboxed_any X W hXl
      have KT : Hid (∀ W, _) := hid fun W => turnedA_any (boxS X) W (boxS_lt hXl)
      have KM : Hid (∀ W, _) := hid fun W => mixedA_any (tur (boxS X)) W (tur_lt (boxS_lt hXl))
      have hYl : ∀ i, (tur (boxS X)) i < 256 := tur_lt (boxS_lt hXl)
      obtain ⟨Z, hZ⟩ : ∃ Z, Z = fun i => (tur (boxS X)) i ^^^ kW ky (9 + 1) i := ⟨_, rfl⟩
      have KA : Hid (∀ W, Calls Tryz.prog 107 #[.agg (qF (col (tur (boxS X)))), .agg (qF (col (kW ky (9 + 1))))] W fun e w' => e = .returned (.agg (qF (col Z))) ∧ Below W.heap.size W w') := hid fun W => by rw [hZ]; exact against_s _ _ W hYl (kW_lt HKY.out _)
      have HZ : Hid (Z = sealN ky sb) := hid (by rw [hZ, hX]; rfl)
      clear hX hXl hYl hZ hm
      go_upto_region 3 with fail
      refine wpLA_start ?_
      refine wpLA_take (.agg (qF (col X))) (yG_part (by rfl) SQT (.tmp 3) rfl p3 0 rfl SQT (qF (col X)) (qF (col X)) (0, 0) _ HS.out.cl.2.1 (qF_all _) Tryz.underlying95 rfl (infoQ _)) ?_
      (try simp only [Act.put, List.getElem_toArray, List.getElem_cons_succ, List.getElem_cons_zero, List.setIfInBounds_toArray, List.set_cons_zero, List.set_cons_succ])
      refine wpLA_take (.agg (qF (col (boxS X)))) (yG_call (by rfl) (fun w' => by go_simp) (fun w' hb => KB.out w')) ?_
      (try simp only [Act.put, List.getElem_toArray, List.getElem_cons_succ, List.getElem_cons_zero, List.setIfInBounds_toArray, List.set_cons_zero, List.set_cons_succ])
      refine wpLA_take (.agg (qF (col (tur (boxS X))))) (yG_call (by rfl) (fun w' => by go_simp) (fun w' hb => KT.out w')) ?_
      (try simp only [Act.put, List.getElem_toArray, List.getElem_cons_succ, List.getElem_cons_zero, List.setIfInBounds_toArray, List.set_cons_zero, List.set_cons_succ])
      refine wpLA_store rfl SQT (.tmp 3) (.tmp 12) rfl p3 (qF (col (tur (boxS X)))) rfl rfl SQT (qF (col X)) HS.out.cl.2.1 (infoQ _) rfl (qF_one _) ?_
      intro wx hb
      have S101 : Hid (St w (wx.setRow p3 (qF (col (tur (boxS X))))) [(p4, qF fun _ => 0, SQT), (p3, qF (col (tur (boxS X))), SQT), (p2, kF (wc ky), KWT)] []) := hid ((HS.out.on hb).put0 1 rfl)
      clear hb HS
      generalize wx.setRow p3 (qF (col (tur (boxS X)))) = w101 at S101 ⊢
      (try simp only [Act.put, List.getElem_toArray, List.getElem_cons_succ, List.getElem_cons_zero, List.setIfInBounds_toArray, List.set_cons_zero, List.set_cons_succ])
      refine wpLA_end ?_
      intro w102 hb
      have S102 := hid (S101.out.on hb)
      clear hb S101
      go_upto_region 4 with fail
      refine wpLA_start ?_
      refine wpLA_take (.int .i64 (((9 + 1 : Nat) : Int))) (yG_val _ (by rfl) (fun w' _ => by (go_simp; try rfl))) ?_
      (try simp only [Act.put, List.getElem_toArray, List.getElem_cons_succ, List.getElem_cons_zero, List.setIfInBounds_toArray, List.set_cons_zero, List.set_cons_succ])
      refine wpLA_take (.bool true) (yG_val _ (by rfl) (fun w' _ => by (go_simp; try rfl))) ?_
      (try simp only [Act.put, List.getElem_toArray, List.getElem_cons_succ, List.getElem_cons_zero, List.setIfInBounds_toArray, List.set_cons_zero, List.set_cons_succ])
      refine wpLA_end ?_
      intro w103 hb
      have S103 := hid (S102.out.on hb)
      clear hb S102
      go_upto_region 5 with fail
      refine wp_region_grA 5 (by kernel_rfl) (by decide) ?_
      refine wpGrA_take (i := 0) (.agg (qF (col (tur (boxS X))))) rfl (by kernel_rfl) (by kernel_rfl) (fun _ _ _ h => h) (yG_part (by rfl) SQT (.tmp 3) rfl p3 0 rfl SQT (qF (col (tur (boxS X)))) (qF (col (tur (boxS X)))) (0, 0) _ S103.out.cl.2.1 (qF_all _) Tryz.underlying95 rfl (infoQ _)) ?_
      (try simp only [Act.put, List.getElem_toArray, List.getElem_cons_succ, List.getElem_cons_zero, List.setIfInBounds_toArray, List.set_cons_zero, List.set_cons_succ])
      refine wpGrA_take (i := 1) (.int .i64 (((9 + 1 : Nat) : Int))) rfl (by kernel_rfl) (by kernel_rfl) (fun _ _ _ h => h) (yG_val _ (by rfl) (fun w' _ => by (go_simp; try rfl))) ?_
      (try simp only [Act.put, List.getElem_toArray, List.getElem_cons_succ, List.getElem_cons_zero, List.setIfInBounds_toArray, List.set_cons_zero, List.set_cons_succ])
      refine wpGrA_take (i := 2) (.pointer (some ⟨p2, 40, none⟩)) rfl (by kernel_rfl) (by kernel_rfl) (fun _ _ _ h => h) (yG_val _ (by rfl) (fun w' _ => by (go_simp; try rfl))) ?_
      (try simp only [Act.put, List.getElem_toArray, List.getElem_cons_succ, List.getElem_cons_zero, List.setIfInBounds_toArray, List.set_cons_zero, List.set_cons_succ])
      refine wpGrA_take (i := 3) (.agg (qF (col (kW ky 10)))) rfl (by kernel_rfl) (by kernel_rfl) (fun _ _ _ h => h) (yG_part (by rfl) SQT (.tmp 17) rfl p2 40 rfl KWT (kF (wc ky)) (qF (col (kW ky 10))) (0, 0) _ S103.out.cl.2.2.1 (kF_part ky 10 (by omega)) Tryz.underlying95 rfl (infoQ _)) ?_
      (try simp only [Act.put, List.getElem_toArray, List.getElem_cons_succ, List.getElem_cons_zero, List.setIfInBounds_toArray, List.set_cons_zero, List.set_cons_succ])
      refine wpGrA_take (i := 4) (.agg (qF (col Z))) rfl (by kernel_rfl) (by kernel_rfl) (fun _ _ _ h => h) (yG_call (by rfl) (fun w' => by go_simp) (fun w' hb => KA.out w')) ?_
      (try simp only [Act.put, List.getElem_toArray, List.getElem_cons_succ, List.getElem_cons_zero, List.setIfInBounds_toArray, List.set_cons_zero, List.set_cons_succ])
      refine wpGrA_end (by kernel_rfl) ?_
      intro w104 hb
      have S104 := hid (S103.out.on hb)
      clear hb S103
      refine wpLA_here ?_
      refine wpLA_store rfl SQT (.tmp 4) (.tmp 19) rfl p4 (qF (col Z)) rfl rfl SQT (qF fun _ => 0) S104.out.cl.1 (infoQ _) rfl (qF_one _) ?_
      intro wx hb
      have S105 : Hid (St w (wx.setRow p4 (qF (col Z))) [(p4, qF (col Z), SQT), (p3, qF (col (tur (boxS X))), SQT), (p2, kF (wc ky), KWT)] []) := hid ((S104.out.on hb).put0 0 rfl)
      clear hb S104
      generalize wx.setRow p4 (qF (col Z)) = w105 at S105 ⊢
      (try simp only [Act.put, List.getElem_toArray, List.getElem_cons_succ, List.getElem_cons_zero, List.setIfInBounds_toArray, List.set_cons_zero, List.set_cons_succ])
      refine wpLA_end ?_
      intro w106 hb
      have S106 := hid (S105.out.on hb)
      clear hb S105
      go_wp2_with fail
      simp only [Exit.jump]
      exact bodyPost_ret (v := .agg (qF (col Z))) (results_cell_row rfl _ _ p4 SQT _ (0, 0) _ rfl S106.out.cl.1 Tryz.underlying95 rfl (infoQ _)) rfl ⟨by rw [HZ.out], S106.out.below⟩
    · have HM : Hid (m < 9) := hid (by omega)
      have hm11 : ((m + 1 : Nat) : Int) < 11 := by omega
      obtain ⟨X, hX⟩ : ∃ X, X = rd ky sb m := ⟨_, rfl⟩
      have hXl : ∀ i, X i < 256 := by rw [hX]; exact rd_lt HKY.out HSB.out _
      rw [← hX] at HS
      have KB : Hid (∀ W, _) := hid fun W => sqboxed_any X W hXl
      have KT : Hid (∀ W, _) := hid fun W => turnedA_any (boxS X) W (boxS_lt hXl)
      have KM : Hid (∀ W, _) := hid fun W => mixedA_any (tur (boxS X)) W (tur_lt (boxS_lt hXl))
      have hYl : ∀ i, (mixS (tur (boxS X))) i < 256 := mixS_lt (tur_lt (boxS_lt hXl))
      obtain ⟨Z, hZ⟩ : ∃ Z, Z = fun i => (mixS (tur (boxS X))) i ^^^ kW ky (m + 1) i := ⟨_, rfl⟩
      have KA : Hid (∀ W, Calls Tryz.prog 107 #[.agg (qF (col (mixS (tur (boxS X))))), .agg (qF (col (kW ky (m + 1))))] W fun e w' => e = .returned (.agg (qF (col Z))) ∧ Below W.heap.size W w') := hid fun W => by rw [hZ]; exact against_s _ _ W hYl (kW_lt HKY.out _)
      have HZ : Hid (Z = rd ky sb (m + 1)) := hid (by rw [hZ, hX]; rfl)
      have HN2 : Hid (IntKind.i64.wrap ((m : Int) + 1 + 1) = (m : Int) + 1 + 1) := hid (IntWalk.i64_in _ (by omega))
      clear hX hXl hYl hZ
      go_upto_region 3 with fail
      refine wpLA_start ?_
      refine wpLA_take (.agg (qF (col X))) (yG_part (by rfl) SQT (.tmp 3) rfl p3 0 rfl SQT (qF (col X)) (qF (col X)) (0, 0) _ HS.out.cl.2.1 (qF_all _) Tryz.underlying95 rfl (infoQ _)) ?_
      (try simp only [Act.put, List.getElem_toArray, List.getElem_cons_succ, List.getElem_cons_zero, List.setIfInBounds_toArray, List.set_cons_zero, List.set_cons_succ])
      refine wpLA_take (.agg (qF (col (boxS X)))) (yG_call (by rfl) (fun w' => by go_simp) (fun w' hb => KB.out w')) ?_
      (try simp only [Act.put, List.getElem_toArray, List.getElem_cons_succ, List.getElem_cons_zero, List.setIfInBounds_toArray, List.set_cons_zero, List.set_cons_succ])
      refine wpLA_take (.agg (qF (col (tur (boxS X))))) (yG_call (by rfl) (fun w' => by go_simp) (fun w' hb => KT.out w')) ?_
      (try simp only [Act.put, List.getElem_toArray, List.getElem_cons_succ, List.getElem_cons_zero, List.setIfInBounds_toArray, List.set_cons_zero, List.set_cons_succ])
      refine wpLA_store rfl SQT (.tmp 3) (.tmp 12) rfl p3 (qF (col (tur (boxS X)))) rfl rfl SQT (qF (col X)) HS.out.cl.2.1 (infoQ _) rfl (qF_one _) ?_
      intro wx hb
      have S101 : Hid (St w (wx.setRow p3 (qF (col (tur (boxS X))))) [(p4, qF fun _ => 0, SQT), (p3, qF (col (tur (boxS X))), SQT), (p2, kF (wc ky), KWT)] []) := hid ((HS.out.on hb).put0 1 rfl)
      clear hb HS
      generalize wx.setRow p3 (qF (col (tur (boxS X)))) = w101 at S101 ⊢
      (try simp only [Act.put, List.getElem_toArray, List.getElem_cons_succ, List.getElem_cons_zero, List.setIfInBounds_toArray, List.set_cons_zero, List.set_cons_succ])
      refine wpLA_end ?_
      intro w102 hb
      have S102 := hid (S101.out.on hb)
      clear hb S101
      go_upto_region 4 with fail
      refine wpLA_start ?_
      refine wpLA_take (.int .i64 (((m + 1 : Nat) : Int))) (yG_val _ (by rfl) (fun w' _ => by (go_simp; try rfl))) ?_
      (try simp only [Act.put, List.getElem_toArray, List.getElem_cons_succ, List.getElem_cons_zero, List.setIfInBounds_toArray, List.set_cons_zero, List.set_cons_succ])
      refine wpLA_take (.bool false) (yG_val _ (by rfl) (fun w' _ => by (go_simp; try (have := HM.out; omega)))) ?_
      (try simp only [Act.put, List.getElem_toArray, List.getElem_cons_succ, List.getElem_cons_zero, List.setIfInBounds_toArray, List.set_cons_zero, List.set_cons_succ])
      refine wpLA_end ?_
      intro w103 hb
      have S103 := hid (S102.out.on hb)
      clear hb S102
      go_upto_region 6 with fail
      refine wp_region_grA 6 (by kernel_rfl) (by decide) ?_
      refine wpGrA_take (i := 0) (.agg (qF (col (tur (boxS X))))) rfl (by kernel_rfl) (by kernel_rfl) (fun _ _ _ h => h) (yG_part (by rfl) SQT (.tmp 3) rfl p3 0 rfl SQT (qF (col (tur (boxS X)))) (qF (col (tur (boxS X)))) (0, 0) _ S103.out.cl.2.1 (qF_all _) Tryz.underlying95 rfl (infoQ _)) ?_
      (try simp only [Act.put, List.getElem_toArray, List.getElem_cons_succ, List.getElem_cons_zero, List.setIfInBounds_toArray, List.set_cons_zero, List.set_cons_succ])
      refine wpGrA_take (i := 1) (.agg (qF (col (mixS (tur (boxS X)))))) rfl (by kernel_rfl) (by kernel_rfl) (fun _ _ _ h => h) (yG_call (by rfl) (fun w' => by go_simp) (fun w' hb => KM.out w')) ?_
      (try simp only [Act.put, List.getElem_toArray, List.getElem_cons_succ, List.getElem_cons_zero, List.setIfInBounds_toArray, List.set_cons_zero, List.set_cons_succ])
      refine wpGrA_take (i := 2) (.int .i64 (((m + 1 : Nat) : Int))) rfl (by kernel_rfl) (by kernel_rfl) (fun _ _ _ h => h) (yG_val _ (by rfl) (fun w' _ => by (go_simp; try rfl))) ?_
      (try simp only [Act.put, List.getElem_toArray, List.getElem_cons_succ, List.getElem_cons_zero, List.setIfInBounds_toArray, List.set_cons_zero, List.set_cons_succ])
      refine wpGrA_take (i := 3) (.pointer (some ⟨p2, ((m + 1) * 4), none⟩)) rfl (by kernel_rfl) (by kernel_rfl) (fun _ _ _ h => h) (yG_val _ (by rfl) (fun w' _ => by (go_simp; intro h1; exfalso; have := HM.out; have := h1 (by omega); omega))) ?_
      (try simp only [Act.put, List.getElem_toArray, List.getElem_cons_succ, List.getElem_cons_zero, List.setIfInBounds_toArray, List.set_cons_zero, List.set_cons_succ])
      refine wpGrA_take (i := 4) (.agg (qF (col (kW ky (m + 1))))) rfl (by kernel_rfl) (by kernel_rfl) (fun _ _ _ h => h) (yG_part (by rfl) SQT (.tmp 23) rfl p2 ((m + 1) * 4) rfl KWT (kF (wc ky)) (qF (col (kW ky (m + 1)))) (0, 0) _ S103.out.cl.2.2.1 (kF_part ky (m + 1) (by omega)) Tryz.underlying95 rfl (infoQ _)) ?_
      (try simp only [Act.put, List.getElem_toArray, List.getElem_cons_succ, List.getElem_cons_zero, List.setIfInBounds_toArray, List.set_cons_zero, List.set_cons_succ])
      refine wpGrA_take (i := 5) (.agg (qF (col Z))) rfl (by kernel_rfl) (by kernel_rfl) (fun _ _ _ h => h) (yG_call (by rfl) (fun w' => by go_simp) (fun w' hb => KA.out w')) ?_
      (try simp only [Act.put, List.getElem_toArray, List.getElem_cons_succ, List.getElem_cons_zero, List.setIfInBounds_toArray, List.set_cons_zero, List.set_cons_succ])
      refine wpGrA_end (by kernel_rfl) ?_
      intro w104 hb
      have S104 := hid (S103.out.on hb)
      clear hb S103
      refine wpLA_here ?_
      refine wpLA_store rfl SQT (.tmp 3) (.tmp 25) rfl p3 (qF (col Z)) rfl rfl SQT (qF (col (tur (boxS X)))) S104.out.cl.2.1 (infoQ _) rfl (qF_one _) ?_
      intro wx hb
      have S105 : Hid (St w (wx.setRow p3 (qF (col Z))) [(p4, qF fun _ => 0, SQT), (p3, qF (col Z), SQT), (p2, kF (wc ky), KWT)] []) := hid ((S104.out.on hb).put0 1 rfl)
      clear hb S104
      generalize wx.setRow p3 (qF (col Z)) = w105 at S105 ⊢
      (try simp only [Act.put, List.getElem_toArray, List.getElem_cons_succ, List.getElem_cons_zero, List.setIfInBounds_toArray, List.set_cons_zero, List.set_cons_succ])
      refine wpLA_end ?_
      intro w106 hb
      have S106 := hid (S105.out.on hb)
      clear hb S105
      go_upto_region 7 with fail
      refine wpLA_start ?_
      refine wpLA_take (.int .i64 (((m + 1 : Nat) : Int))) (yG_val _ (by rfl) (fun w' _ => by (go_simp; try rfl))) ?_
      (try simp only [Act.put, List.getElem_toArray, List.getElem_cons_succ, List.getElem_cons_zero, List.setIfInBounds_toArray, List.set_cons_zero, List.set_cons_succ])
      refine wpLA_take (.int .i64 (((m + 1 + 1 : Nat) : Int))) (yG_val _ (by rfl) (fun w' _ => by (go_simp; exact HN2.out))) ?_
      (try simp only [Act.put, List.getElem_toArray, List.getElem_cons_succ, List.getElem_cons_zero, List.setIfInBounds_toArray, List.set_cons_zero, List.set_cons_succ])
      refine wpLA_take (.int .i64 (((m + 1 + 1 : Nat) : Int))) (yG_val _ (by rfl) (fun w' _ => by (go_simp; try rfl))) ?_
      (try simp only [Act.put, List.getElem_toArray, List.getElem_cons_succ, List.getElem_cons_zero, List.setIfInBounds_toArray, List.set_cons_zero, List.set_cons_succ])
      refine wpLA_end ?_
      intro w107 hb
      have S107 := hid (S106.out.on hb)
      clear hb S106
      go_wp2_with fail
      go_step3
      refine ⟨rfl, ⟨m + 1, p2, p3, p4, _, _, _, _, _, _, _, _, _, _, _, _, _, _, _, _, _, _, _, _, _, _, rfl, by have := HM.out; omega, by rw [← HZ.out]; exact S107.out⟩, by show 11 - (intOf (.int .i64 ((m + 1 + 1 : Nat) : Int))).toNat < 11 - (intOf (.int .i64 ((m + 1 : Nat) : Int))).toNat; have := HM.out; simp [intOf]; omega⟩
end Go.Proofs.YtpkmidaflnbobaaGreatDoor
end
section
namespace Go.Proofs.YtpkmidaflnbobaaGreatDoor
open Go.RowKit
set_option linter.unusedVariables false
set_option linter.unusedSimpArgs false
theorem Block_any (A A' : Option Addr) (key blk : List UInt8) (n n' c c' : Nat) (w : World) (hS : Sq w w.heap.size A c (bvs key)) (hS' : Sq w w.heap.size A' c' (bvs blk)) (hn : key.length = n) (hn' : blk.length = n') :
    Calls Tryz.prog 57 #[.slice A n c, .slice A' n' c'] w fun e w' => if n = 16 ∧ n' = 16 then (∃ v, e = .returned (.tuple #[v, .bool true]) ∧ OwnB w' w.heap.size v (blkL (sealN (bf key) (bf blk))) ∧ Below w.heap.size w w') else e = .returned (.tuple #[.slice none 0 0, .bool false]) ∧ Below w.heap.size w w' := by
  have HS := hid hS; have HS' := hid hS'; have HN := hid hn; have HN' := hid hn'
  clear hS hS' hn hn'
  go_enter Tryz.func57, Tryz.ntmps57
  by_cases h : n = 16
  · subst h
    by_cases h' : n' = 16
    · subst h'
      have HK : Hid (∀ W, Below w.heap.size w W → Calls Tryz.prog 83 #[.slice A (16 : Nat) c] W fun e w' => e = .returned (.agg (kF (wc (bf key)))) ∧ Below W.heap.size W w') := hid fun W hb => wordsA_any A key 16 c W ((HS.out.below hb).more hb.size) HN.out rfl
      have HB : Hid (∀ W, Below w.heap.size w W → Calls Tryz.prog 84 #[.slice A' (16 : Nat) c'] W fun e w' => e = .returned (.agg (qF (col (bf blk)))) ∧ Below W.heap.size W w') := hid fun W hb => squareOf_any A' blk 16 c' W ((HS'.out.below hb).more hb.size) HN'.out rfl
      go_wp2_with fail
      refine (HK.out _ (Below.refl _ _)).mono ?_
      rintro e w1 ⟨rfl, hb1⟩
      have HB1 := hid hb1
      clear hb1
      go_wp2_with fail
      refine (HB.out _ HB1.out).mono ?_
      rintro e w2 ⟨rfl, hb2⟩
      have HB2 : Hid (Below w.heap.size w w2) := hid (HB1.out.trans (hb2.mono HB1.out.size))
      clear hb2
      go_wp2_with fail
      refine (sealed_any (bf key) (bf blk) _ (bf_lt key) (bf_lt blk)).mono ?_
      rintro e w3 ⟨rfl, hb3⟩
      have HB3 : Hid (Below w.heap.size w w3) := hid (HB2.out.trans (hb3.mono HB2.out.size))
      clear hb3
      go_wp2_with fail
      refine (sqbytes_any (sealN (bf key) (bf blk)) _ (sealN_lt (bf_lt key) (bf_lt blk))).mono ?_
      rintro e w4 ⟨v, rfl, ho, hb4⟩
      have HB4 : Hid (Below w.heap.size w w4) := hid (HB3.out.trans (hb4.mono HB3.out.size))
      have HO : Hid (OwnB w4 w.heap.size v (blkL (sealN (bf key) (bf blk)))) := hid (own_base ho HB3.out.size)
      clear hb4 ho
      go_wp2
      go_ret2
      exact ⟨v, rfl, HO.out, HB4.out⟩
    · have hi : ¬ (n' : Int) = 16 := by omega
      have hib : ((n' : Int) != 16) = true := by rw [bne_iff_ne]; exact hi
      go_wp2
      go_ret2
      exact ⟨rfl, Below.refl _ _⟩
  · have hi : ¬ (n : Int) = 16 := by omega
    have hib : ((n : Int) != 16) = true := by rw [bne_iff_ne]; exact hi
    go_wp2
    go_ret2
    exact ⟨rfl, Below.refl _ _⟩
end Go.Proofs.YtpkmidaflnbobaaGreatDoor
end
section
namespace Go.Proofs.YtpkmidaflnbobaaGreatDoor
set_option linter.unusedVariables false
set_option linter.unusedSimpArgs false
theorem bf_ext {xs ys : List UInt8} (hx : xs.length = 16) (hy : ys.length = 16) (h : ∀ i, i < 16 → bf xs i = bf ys i) : xs = ys := by
  apply List.ext_getElem (by rw [hx, hy])
  intro i h1 h2
  have := h i (by omega)
  rw [bf_at xs i h1, bf_at ys i h2] at this
  exact UInt8.toNat_inj.1 this
end Go.Proofs.YtpkmidaflnbobaaGreatDoor
end
