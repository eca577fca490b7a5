/-
  Texts of this claim in one file: ScN.
-/
import Derived.Test.YtgehfbcagaaggaaGreatDoorPk41
import Derived.Test.YtgehfbcagaaggaaGreatDoorPk42
section
namespace Go.Proofs.YtgehfbcagaaggaaGreatDoor
open Go Go.RowKit
set_option linter.unusedVariables false
set_option linter.unusedSimpArgs false
/-- What is left of the higher bits, from bit m on. -/
def lft (n X m : Nat) : Nat := n * (X / 2 ^ m) % ordL
theorem lft_lt (n X m : Nat) : lft n X m < ordL := Nat.mod_lt _ ordL_pos
theorem lft_zero (n X : Nat) : lft n X 0 = n * X % ordL := by unfold lft; rw [Nat.pow_zero, Nat.div_one]
theorem lft_end {n X k : Nat} (h : X < 2 ^ k) : lft n X k = 0 := by unfold lft; rw [Nat.div_eq_of_lt h, Nat.mul_zero, Nat.zero_mod]
theorem lft_step (n X m t : Nat) (ht : t = X / 2 ^ m % 2) : ((lft n X (m + 1) + lft n X (m + 1)) % ordL + (if decide (t = 1) then n else 0)) % ordL = lft n X m := by
  have e : X / 2 ^ m = 2 * (X / 2 ^ (m + 1)) + t := by rw [ht]; exact half_step X m
  unfold lft
  rw [e]
  generalize X / 2 ^ (m + 1) = y
  have e2 : (if decide (t = 1) then n else 0) = n * t := by
    have : t = 0 ∨ t = 1 := by omega
    rcases this with h | h <;> simp [h]
  rw [e2, Nat.mul_add, ← Nat.two_mul, Nat.mod_add_mod, Nat.add_mod, Nat.mul_mod_mod, ← Nat.add_mod, show 2 * (n * y) = n * (2 * y) by rw [Nat.mul_left_comm]]
theorem bit_neg (t : Nat) (ht : t < 2) : IntKind.u64.wrap (-(t : Int)) = (maskN (decide (t = 1)) : Int) := by
  rcases (by omega : t = 0 ∨ t = 1) with rfl | rfl
  · rw [IntKind.wrap_u64]; rfl
  · rw [IntKind.wrap_u64]; rfl
/-- At the label. -/
def TimesAt (w : World) (n : Nat) (xs : List UInt8) (m b2 b4 b5 : Nat) (wr : World) : Prop :=
  m ≤ 8 * xs.length ∧ Cl wr [(b5, sA (lft n (leN xs) m), ST), (b2, sA n, ST), (b4, z4, ST)] ∧ Below w.heap.size w wr
theorem Cl.upd1 {w : World} {g : Nat} {X X' : Array Value} {t : TypeId} {L : List (Nat × Array Value × TypeId)} (hc : Cl w ((g, X, t) :: L)) (hg : ∀ p ∈ L, p.1 ≠ g) : Cl (w.setRow g X') ((g, X', t) :: L) :=
  ⟨setRow_heap _ _ _ _ _ _ hc.1, hc.2.row _ hg⟩
theorem sizeSS (n m : Nat) : (sA n).size = (sA m).size := rfl
set_option maxRecDepth 100000 in
set_option maxHeartbeats 2000000 in
theorem times_s (n : Nat) (A : Option Addr) (xs : List UInt8) (c : Nat) (w : World) (hn : n < ordL) (hS : Sq w w.heap.size A c (bvs xs)) (hl : xs.length ≤ 1000) :
    Calls Tryz.prog 73 #[.agg (sA n), .slice A xs.length c] w (ScR w (n * leN xs % ordL)) := by
  have HS := hid hS; have HL := hid hl; have HN := hid hn
  obtain ⟨OU, hOU⟩ : ∃ v, v = n * leN xs % ordL := ⟨_, rfl⟩
  rw [← hOU]
  have HOU := hid hOU
  have F0 := hid (Cl_three w (sA n) z4 z4)
  have HB0 : Hid (Below w.heap.size w (((w.alloc (.cells (sA n) ST)).alloc (.cells z4 ST)).alloc (.cells z4 ST))) := hid ((((Below.refl _ _).alloc (Nat.le_refl _) _).alloc (by simp) _).alloc (by simp; omega) _)
  have hlw : IntKind.i64.wrap (8 * (xs.length : Int)) = ((8 * xs.length : Nat) : Int) := (IntWalk.i64_in _ (by omega)).trans (by omega)
  clear hS hn hOU
  unfold ScR
  go_enter Tryz.func73, Tryz.ntmps73
  go_wp2_with fail
  obtain ⟨b2, hb2⟩ : ∃ b, b = w.heap.size := ⟨_, rfl⟩
  obtain ⟨b4, hb4⟩ : ∃ b, b = w.heap.size + 1 := ⟨_, rfl⟩
  obtain ⟨b5, hb5⟩ : ∃ b, b = w.heap.size + 1 + 1 := ⟨_, rfl⟩
  have HNE : Hid (b2 ≠ b4 ∧ b2 ≠ b5 ∧ b4 ≠ b5 ∧ w.heap.size ≤ b4 ∧ w.heap.size ≤ b5 ∧ w.heap.size ≤ b2) := hid ⟨by omega, by omega, by omega, by omega, by omega, by omega⟩
  have HB5 := hid hb5
  rw [← hb5, ← hb4, ← hb2] at F0
  rw [show w.heap.size + 1 = b4 from hb4.symm, show w.heap.size = b2 from hb2.symm]
  refine wp_scope_at' 0 (fun a' w' => ∃ (m : Nat) (u7 u8 u9 u10 u11 u12 u13 u14 u15 u16 u17 u18 u19 u20 u21 u22 u23 u24 u25 u26 u27 u28 u29 u30 u31 u32 u33 u34 : Value), a' = { tmps := (.agg (sA n) :: .slice A xs.length c :: .pointer (some ⟨b2, 0, none⟩) :: undef :: .pointer (some ⟨b4, 0, none⟩) :: .pointer (some ⟨b5, 0, none⟩) :: .int .i64 ((m : Nat) : Int) :: u7 :: u8 :: u9 :: u10 :: u11 :: u12 :: u13 :: u14 :: u15 :: u16 :: u17 :: u18 :: u19 :: u20 :: u21 :: u22 :: u23 :: u24 :: u25 :: u26 :: u27 :: u28 :: u29 :: u30 :: u31 :: u32 :: u33 :: u34 :: []).toArray, defers := [] } ∧ TimesAt w n xs m b2 b4 b5 w') (fun a' _ => (intOf (a'.tmps.getD 6 undef)).toNat) rfl ?_ ?_
  · intro Qj hQr hQp hJ
    subst hb5 hb4 hb2
    go_wp2_with fail
    refine wp_label ?_
    rename_i K hK
    refine hK _ _ (hJ _ _ ⟨8 * xs.length, _, _, _, _, _, _, _, _, _, _, _, _, _, _, _, _, _, _, _, _, _, _, _, _, _, _, _, _, rfl, ?_⟩)
    refine ⟨Nat.le_refl _, ?_, ?_⟩
    · rw [lft_end (k := 8 * xs.length) (by have := leN_lt xs; rwa [show (256 : Nat) = 2 ^ 8 by rfl, ← Nat.pow_mul] at this), ← zS_is]
      exact ⟨F0.out.2.2.1, F0.out.1, F0.out.2.1, trivial⟩
    · exact HB0.out
  · rintro a' w' ⟨m, u7, u8, u9, u10, u11, u12, u13, u14, u15, u16, u17, u18, u19, u20, u21, u22, u23, u24, u25, u26, u27, u28, u29, u30, u31, u32, u33, u34, rfl, hP⟩
    clear F0 HB0 hlw HB5 hb2 hb4 hb5
    obtain ⟨hm, hF, hB⟩ := hP
    have HB := hid hB; have HF := hid hF
    clear hB hF
    rcases m with _ | m
    · rw [lft_zero, ← HOU.out] at HF
      have H5 : w'.heap[b5]? = some (.cells (sA OU) ST (0, 0)) := HF.out.1
      have H4 : w'.heap[b4]? = some (.cells z4 ST (0, 0)) := HF.out.2.2.1
      go_wp2_with (first
        | (with_reducible refine wpList_load_row rfl ST (.tmp 5) rfl b5 rfl ST (sA OU) (0, 0) _ H5 Tryz.underlying62 rfl (infoSA _) ?_)
        | (with_reducible refine wpList_store_row rfl ST (.tmp 4) (.tmp 13) rfl b4 (sA OU) rfl rfl ST z4 H4 (infoSA _) (sizeZ4 _) (oneSA _) ?_))
      have J4 : (w'.setRow b4 (sA OU)).heap[b4]? = some (.cells (sA OU) ST (0, 0)) := setRow_heap _ _ _ _ _ _ H4
      have HBZ : Below w.heap.size w (w'.setRow b4 (sA OU)) := belowRow HB.out HNE.out.2.2.2.1 _
      simp only [Exit.jump]
      exact bodyPost_ret (v := .agg (sA OU)) (results_cell_row rfl _ _ b4 ST _ (0, 0) _ rfl J4 Tryz.underlying62 rfl (infoSA _)) rfl ⟨rfl, HBZ⟩
    · have hj : m / 8 < xs.length := by omega
      have hbit := leN_bit xs m hj
      obtain ⟨y, hy⟩ : ∃ y, y = xs[m / 8] := ⟨_, rfl⟩
      rw [← hy] at hbit
      obtain ⟨q, hqq⟩ : ∃ q, q = m / 8 := ⟨_, rfl⟩
      obtain ⟨r, hr⟩ : ∃ r, r = m % 8 := ⟨_, rfl⟩
      have hm0 : (0 : Int) ≤ (m : Int) := by omega
      have hq1 : ((m : Int)).tdiv 8 = (q : Int) := by rw [Int.tdiv_eq_ediv_of_nonneg hm0]; omega
      have hq2 : (m : Int) / 8 = (q : Int) := by omega
      have hr1 : ((m : Int)).tmod 8 = (r : Int) := by rw [Int.tmod_eq_emod_of_nonneg hm0]; omega
      have hr2 : (m : Int) % 8 = (r : Int) := by omega
      have hqw : IntKind.i64.wrap (q : Int) = (q : Int) := IntWalk.i64_in _ (by omega)
      have hrw : IntKind.i64.wrap (r : Int) = (r : Int) := IntWalk.i64_in _ (by omega)
      have hmw : IntKind.i64.wrap (((m + 1 : Nat) : Int) - 1) = (m : Int) := (IntWalk.i64_in _ (by omega)).trans (by omega)
      have hm1 : ((m + 1 : Nat) : Int) - 1 = (m : Int) := by omega
      have hne : (((m + 1 : Nat) : Int) == 0) = false := by rw [beq_eq_false_iff_ne]; omega
      have hqx : (q : Int) < (xs.length : Int) := by omega
      have hq0 : (0 : Int) ≤ (q : Int) := by omega
      have hr0 : (0 : Int) ≤ (r : Int) := by omega
      have hr8 : (r : Int) < 64 := by omega
      obtain ⟨b, o, rfl, hbl, hcell⟩ := ((HS.out.below HB.out).lie).byte hj
      rw [← hy, ← hqq] at hcell
      rw [← hr] at hbit
      obtain ⟨t, ht⟩ : ∃ t, t = y.toNat / 2 ^ r % 2 := ⟨_, rfl⟩
      have hand : bits .and .u8 ((y.toNat : Int) / 2 ^ r) 1 = (t : Int) := by
        have hyl := y.toNat_lt
        have h1 := u8_and_nat (y.toNat / 2 ^ r) 1 (Nat.lt_of_le_of_lt (Nat.div_le_self _ _) hyl) (by omega)
        rw [Nat.and_one_is_mod, ← ht] at h1
        rw [← h1]
        congr 1
      have ht2 : t < 2 := by omega
      rw [← ht] at hbit
      obtain ⟨s, hs⟩ : ∃ s, s = lft n (leN xs) (m + 1) := ⟨_, rfl⟩
      have hsl : s < ordL := by rw [hs]; exact lft_lt _ _ _
      have hnew := lft_step n (leN xs) m t hbit
      rw [← hs] at HF hnew
      obtain ⟨s1, hs1⟩ : ∃ s1, s1 = (s + s) % ordL := ⟨_, rfl⟩
      have hs1l : s1 < ordL := by rw [hs1]; exact Nat.mod_lt _ ordL_pos
      rw [← hs1] at hnew
      have hneg := bit_neg t ht2
      obtain ⟨g, hg⟩ : ∃ g, g = decide (t = 1) := ⟨_, rfl⟩
      rw [← hg] at hneg hnew
      obtain ⟨s2, hs2⟩ : ∃ s2, s2 = (if g then n else 0) := ⟨_, rfl⟩
      have hs2l : s2 < ordL := by rw [hs2]; have := HN.out; have := ordL_pos; split <;> omega
      rw [← hs2] at hnew
      obtain ⟨s3, hs3⟩ : ∃ s3, s3 = (s1 + s2) % ordL := ⟨_, rfl⟩
      rw [← hs3] at hnew
      have KA : Hid (∀ W, Calls Tryz.prog 45 #[.agg (sA s), .agg (sA s)] W fun e w' => e = .returned (.agg (sA s1)) ∧ Below W.heap.size W w') := hid fun W => by rw [hs1]; exact Add_s s s W hsl hsl
      have KB : Hid (∀ W, Calls Tryz.prog 100 #[.agg (sA n), .int .u64 (maskN g : Int)] W fun e w' => e = .returned (.agg (sA s2)) ∧ Below W.heap.size W w') := hid fun W => by
        rw [hs2]; exact only_s n g W (by have := HN.out; have := ordL_big; omega)
      have KC : Hid (∀ W, Calls Tryz.prog 45 #[.agg (sA s1), .agg (sA s2)] W fun e w' => e = .returned (.agg (sA s3)) ∧ Below W.heap.size W w') := hid fun W => by rw [hs3]; exact Add_s s1 s2 W hs1l hs2l
      obtain ⟨k, hk⟩ : ∃ k, k = maskN g := ⟨_, rfl⟩
      rw [← hk] at KB hneg
      have HNEW := hid hnew
      have HM := hid hm
      have G0 : w'.heap[b5]? = some (.cells (sA s) ST (0, 0)) := HF.out.1
      clear hs hs1 hs2 hs3 hnew hbit hy hqq hr ht HOU hj hsl hs1l hs2l hg hk hm
      go_wp2_with (with_reducible refine wpList_load_row rfl ST (.tmp 5) rfl b5 rfl ST (sA s) (0, 0) _ G0 Tryz.underlying62 rfl (infoSA _) ?_)
      refine (KA.out _).mono ?_
      rintro e wc ⟨rfl, hb⟩
      have FC := (HF.out).on hb
      have G1 : wc.heap[b5]? = some (.cells (sA s) ST (0, 0)) := FC.1
      have F1 : Hid (Cl (wc.setRow b5 (sA s1)) [(b5, sA s1, ST), (b2, sA n, ST), (b4, z4, ST)]) := hid (FC.upd1 (by
        intro p hp; simp only [List.mem_cons, List.not_mem_nil, or_false] at hp; rcases hp with rfl | rfl; exact HNE.out.2.1; exact HNE.out.2.2.1))
      have B1 : Hid (Below w.heap.size w (wc.setRow b5 (sA s1))) := hid (belowRow (HB.out.trans (hb.mono HB.out.size)) HNE.out.2.2.2.2.1 _)
      have hcell1 : (wc.setRow b5 (sA s1)).cell? ⟨b, o + q, none⟩ = some (.int .u8 (y.toNat : Int)) := by
        rw [B1.out.cell (p := ⟨b, o + q, none⟩) hbl, ← HB.out.cell (p := ⟨b, o + q, none⟩) hbl]; exact hcell
      generalize hw1 : wc.setRow b5 (sA s1) = w1 at F1 B1 hcell1
      clear FC hb G0 HF HB hcell hbl
      go_wp2_with (with_reducible refine wpList_store_row rfl ST (.tmp 5) (.tmp 18) rfl b5 (sA s1) rfl rfl ST (sA s) G1 (infoSA _) (sizeSS _ _) (oneSA _) ?_)
      clear hm0 hq1 hq2 hr1 hr2 hqw hrw hmw hm1 hne hqx hq0 hr0 hr8 hand hw1 G1 hcell1
      refine wp_region_grA 6 (by kernel_rfl) (by decide) ?_
      refine wpGrA_take (i := 0) (.agg (sA s1)) rfl (by kernel_rfl) (by kernel_rfl) (fun _ _ _ h => h) (yieldsG_part rfl ST (.tmp 5) rfl b5 0 rfl ST (sA s1) (sA s1) (0, 0) _ F1.out.1 (sA_all _) Tryz.underlying62 rfl (infoSA _)) ?_
      (try simp only [Act.put, List.getElem_toArray, List.getElem_cons_succ, List.getElem_cons_zero, List.setIfInBounds_toArray, List.set_cons_zero, List.set_cons_succ])
      refine wpGrA_take (i := 1) (.agg (sA n)) rfl (by kernel_rfl) (by kernel_rfl) (fun _ _ _ h => h) (yieldsG_part rfl ST (.tmp 2) rfl b2 0 rfl ST (sA n) (sA n) (0, 0) _ F1.out.2.1 (sA_all _) Tryz.underlying62 rfl (infoSA _)) ?_
      (try simp only [Act.put, List.getElem_toArray, List.getElem_cons_succ, List.getElem_cons_zero, List.setIfInBounds_toArray, List.set_cons_zero, List.set_cons_succ])
      refine wpGrA_take (i := 2) (.int .u64 (t : Int)) rfl (by kernel_rfl) (by kernel_rfl) (fun _ _ _ h => h) (yieldsG_val _ rfl (fun w' _ => by go_simp)) ?_
      (try simp only [Act.put, List.getElem_toArray, List.getElem_cons_succ, List.getElem_cons_zero, List.setIfInBounds_toArray, List.set_cons_zero, List.set_cons_succ])
      refine wpGrA_take (i := 3) (.int .u64 (k : Int)) rfl (by kernel_rfl) (by kernel_rfl) (fun _ _ _ h => h) (yieldsG_val _ rfl (fun w' _ => by go_simp)) ?_
      (try simp only [Act.put, List.getElem_toArray, List.getElem_cons_succ, List.getElem_cons_zero, List.setIfInBounds_toArray, List.set_cons_zero, List.set_cons_succ])
      refine wpGrA_take (i := 4) (.agg (sA s2)) rfl (by kernel_rfl) (by kernel_rfl) (fun _ _ _ h => h) (yieldsG_call rfl (fun w' => by go_simp) (fun w' _ => KB.out w')) ?_
      (try simp only [Act.put, List.getElem_toArray, List.getElem_cons_succ, List.getElem_cons_zero, List.setIfInBounds_toArray, List.set_cons_zero, List.set_cons_succ])
      refine wpGrA_take (i := 5) (.agg (sA s3)) rfl (by kernel_rfl) (by kernel_rfl) (fun _ _ _ h => h) (yieldsG_call rfl (fun w' => by go_simp) (fun w' _ => KC.out w')) ?_
      (try simp only [Act.put, List.getElem_toArray, List.getElem_cons_succ, List.getElem_cons_zero, List.setIfInBounds_toArray, List.set_cons_zero, List.set_cons_succ])
      refine wpGrA_end (by kernel_rfl) (fun wx hb => ?_)
      simp only [List.drop_succ_cons, List.drop_zero]
      have FC := (F1.out).on hb
      have G2 : wx.heap[b5]? = some (.cells (sA s1) ST (0, 0)) := FC.1
      have F2 : Hid (Cl (wx.setRow b5 (sA s3)) [(b5, sA s3, ST), (b2, sA n, ST), (b4, z4, ST)]) := hid (FC.upd1 (by
        intro p hp; simp only [List.mem_cons, List.not_mem_nil, or_false] at hp; rcases hp with rfl | rfl; exact HNE.out.2.1; exact HNE.out.2.2.1))
      have B2 : Hid (Below w.heap.size w (wx.setRow b5 (sA s3))) := hid (belowRow (B1.out.trans (hb.mono B1.out.size)) HNE.out.2.2.2.2.1 _)
      refine wpList_store_row rfl ST (.tmp 5) (.tmp 34) rfl b5 (sA s3) rfl rfl ST (sA s1) G2 (infoSA _) (sizeSS _ _) (oneSA _) ?_
      (try simp only [Act.put, List.getElem_toArray, List.getElem_cons_succ, List.getElem_cons_zero, List.setIfInBounds_toArray, List.set_cons_zero, List.set_cons_succ])
      go_wp2_with fail
      go_step3
      refine ⟨rfl, ⟨m, _, _, _, _, _, _, _, _, _, _, _, _, _, _, _, _, _, _, _, _, _, _, _, _, _, _, _, _, rfl, ?_⟩, by show (intOf (.int .i64 ((m : Nat) : Int))).toNat < (intOf (.int .i64 ((m + 1 : Nat) : Int))).toNat; simp [intOf]⟩
      rw [TimesAt, ← HNEW.out]
      exact ⟨by have := HM.out; omega, F2.out, B2.out⟩
end Go.Proofs.YtgehfbcagaaggaaGreatDoor
end
