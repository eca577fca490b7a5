/-
  Texts of this claim in one file: Law16e, Law16f, Law16g.
-/
import Derived.Test.YtlgcdddgahjknaaPk17
import Derived.Test.YtlgcdddgahjknaaPk16
section
namespace Go.Proofs.Ytlgcdddgahjknaa
open Go Go.RowKit
set_option linter.unusedVariables false
set_option linter.unusedSimpArgs false
theorem of_back {k : Nat} {x : Lf} {u : Pnt} (hr : rightB k x u = true) : ofE (nodeBy k x u) = 0 ∧ ofK (nodeBy k x u) = k ∧ ofL (nodeBy k x u) = x ∧ ofP (nodeBy k x u) = u := by
  obtain ⟨h1, h2, h3, h4, h5⟩ := tk_back (xs := nodeBy k x u) (R := []) (by rw [List.append_nil]) hr
  have hE : ofE (nodeBy k x u) = 0 := by unfold ofE; rw [if_neg (by rw [h1]; simp), if_neg (by omega)]
  unfold ofK ofL ofP
  rw [if_pos hE, if_pos hE, if_pos hE]
  exact ⟨hE, h2, h3, h4⟩
theorem of_put {xs : List UInt8} (h : ofE xs = 0) : rightB (ofK xs) (ofL xs) (ofP xs) = true ∧ nodeBy (ofK xs) (ofL xs) (ofP xs) = xs := by
  have hE := h
  unfold ofE at h
  split at h
  · next h1 => exact absurd h h1
  · next h1 =>
    split at h
    · cases h
    · next h2 =>
      have hp := tk_put (xs := xs) (by omega)
      unfold ofK ofL ofP
      rw [if_pos hE, if_pos hE, if_pos hE]
      refine ⟨hp.1, ?_⟩
      have h3 := hp.2
      rw [List.drop_eq_nil_of_le (by omega), List.append_nil] at h3
      exact h3.symm
theorem late_64 (v : List UInt8) (n : Nat) : ∀ z ∈ lateOf v n, -9223372036854775808 ≤ z ∧ z ≤ 9223372036854775807 := fun z hz => by
  unfold lateOf at hz
  obtain ⟨j, -, rfl⟩ := List.mem_map.1 hz
  unfold lateAt
  have h0 := (v.getD (4 * j) 0).toNat_lt; have h1 := (v.getD (4 * j + 1) 0).toNat_lt; have h2 := (v.getD (4 * j + 2) 0).toNat_lt; have h3 := (v.getD (4 * j + 3) 0).toNat_lt
  omega
theorem lfm_0 : LfM lf0 := by unfold LfM; decide
theorem prm_0 : PrM pr0 := by unfold PrM; decide
theorem tlX_m (xs : List UInt8) (i : Nat) (h : xs.length ≤ 1000000) : LfM (tlX xs i) := by
  unfold tlX
  split
  · have h0 := vecJ_le xs i 0; have h1 := vecJ_le xs i 1; have h2 := vecJ_le xs i 2; have h3 := vecJ_le xs (tlP xs i + 1) 0; have h4 := vecJ_le xs (tlR xs i) 0; have h5 := srcJ_lt xs (tlP xs i)
    refine ⟨?_, ?_, ?_, ?_, ?_, h5⟩
    · show (vecJ xs i 0).length ≤ _; omega
    · show (vecJ xs i 1).length ≤ _; omega
    · show (vecJ xs i 2).length ≤ _; omega
    · show (if srcJ xs (tlP xs i) = 3 then vecJ xs (tlP xs i + 1) 0 else []).length ≤ _
      split
      · omega
      · exact Nat.zero_le _
    · show (vecJ xs (tlR xs i) 0).length ≤ _; omega
  · exact lfm_0
theorem of_m (xs : List UInt8) (h : xs.length ≤ 1000000) : LfM (ofL xs) ∧ PrM (ofP xs) ∧ ofK xs < 256 ∧ Late64 (ofP xs) := by
  have hL : LfM (tkL xs 0) := by
    unfold tkL
    split
    · exact tlX_m xs 1 h
    · exact lfm_0
  have hP : PrM (tkP xs 0) ∧ Late64 (tkP xs 0) := by
    unfold tkP
    split
    · have h0 := vecJ_le xs 1 0; have h1 := vecJ_le xs 1 1; have h2 := vecJ_le xs 1 2
      refine ⟨⟨?_, ?_, ?_⟩, late_64 _ _⟩
      · show (vecJ xs 1 0).length ≤ _; omega
      · show (vecJ xs 1 1).length ≤ _; omega
      · show (lateOf _ _).length ≤ _; rw [lateOf_length]; show (vecJ xs 1 2).length / 4 ≤ _; omega
    · exact ⟨prm_0, fun z hz => by cases hz⟩
  unfold ofL ofP ofK
  refine ⟨?_, ?_, ?_, ?_⟩
  · split
    · exact hL
    · exact lfm_0
  · split
    · exact hP.1
    · exact prm_0
  · split
    · exact tkK_lt xs 0
    · decide
  · split
    · exact hP.2
    · exact fun z hz => by cases hz
theorem ofE_lt (xs : List UInt8) : ofE xs ≤ 5 := by
  have := tkE_lt xs 0
  unfold ofE
  split
  · omega
  · split <;> omega
set_option maxHeartbeats 4000000 in
theorem nodeBack_any (hB : NdBytes) (hO : NdOf) (hS : NdSame) (hA : Alive16) (k : Nat) (x : Lf) (a : LA) (u : Pnt) (p : PA) (A : Option Addr) (xs : List UInt8) (c : Nat) (w : World) (hx : LfIn w x a) (hu : PrIn w u p) (hs : x.src < 256) (hk : k < 256) (hl : Late64 u) (hq : Sq w w.heap.size A c (bvs xs)) :
    Calls Try.prog 6 #[.agg (ndV k x a u p), .slice A xs.length c] w (RetB w true) := by
  have HA := hid hA
  have HSM := hid (fun W => Small16_any k x a u p W)
  obtain ⟨W0, hW0⟩ : ∃ W, W = w.alloc (.cells (ndV k x a u p) NdT) := ⟨_, rfl⟩
  have HB0 : Hid (Below w.heap.size w W0) := hid (by rw [hW0]; exact (Below.refl _ _).alloc (Nat.le_refl _) _)
  have K0 : Hid (W0.heap[w.heap.size]? = some (.cells (ndV k x a u p) NdT (0, 0))) := hid (by rw [hW0]; exact heap_alloc_new w _)
  have HX := hid (hx.on HB0.out); have HU := hid (hu.on HB0.out); have HQ0 := hid (sq_on16 hq HB0.out)
  have HK0 := hid hW0
  clear hA hx hu hW0 hq
  go_enter Try.func6, Try.ntmps6
  go_wp2_with fail
  rw [← HK0.out]
  refine (HA.out _).mono ?_
  rintro e w1 ⟨rfl, hb⟩
  have HB1 := hid hb
  have K1 := hid ((hb.block _ (block_lt K0.out)).trans K0.out)
  clear hb
  go_wp2_with (with_reducible refine wpList_load_row rfl NdT (.tmp 2) rfl w.heap.size rfl NdT (ndV k x a u p) (0, 0) _ K1.out Try.underlying29 rfl infoNd16 ?_)
  refine (HSM.out _).mono ?_
  rintro e w2 ⟨rfl, hb⟩
  have HB2 := hid (HB1.out.trans (hb.mono HB1.out.size))
  clear hb HB1 K1
  obtain ⟨sm, hsm⟩ : ∃ s, s = smallB x u := ⟨_, rfl⟩
  rw [← hsm]
  cases sm with
  | false =>
    clear hsm
    go_wp2
    go_ret
    exact ⟨rfl, HB0.out.trans (HB2.out.mono HB0.out.size)⟩
  | true =>
    by_cases hlen : 1500 < xs.length
    · have hi : (xs.length : Int) > 1500 := by omega
      have hi2 : (1500 : Int) < (xs.length : Int) := by omega
      clear hsm hlen
      go_wp2
      go_ret
      exact ⟨rfl, HB0.out.trans (HB2.out.mono HB0.out.size)⟩
    have hi : ¬ (xs.length : Int) > 1500 := by omega
    have hi2 : ¬ (1500 : Int) < (xs.length : Int) := by omega
    obtain ⟨hl2, hp2, hlx, hpx⟩ := small_le hsm.symm hs
    have hmx := lf200_m hl2; have hmu := pr200_m hp2
    have HNB : Hid (∀ W, Below W0.heap.size W0 W → Calls Try.prog 10 #[.agg (ndV k x a u p)] W (BysE W (nbX k x u) (nbE k x u))) := hid fun W h => hB k x a u p W ⟨HX.out.on h, HU.out.on h, hmx, hmu, hk, hl⟩
    have hle2 := node_le (k := k) hl2 hp2
    have HO1 : Hid (rightB k x u = true → ∀ A c W, Sq W W.heap.size A c (bvs (nodeBy k x u)) → Calls Try.prog 18 #[.slice A (nodeBy k x u).length c] W (NodeE W k x u 0)) := hid fun hr A c W h => by
      have h2 := hO A (nodeBy k x u) c W h hle2
      rw [(of_back hr).1, (of_back hr).2.1, (of_back hr).2.2.1, (of_back hr).2.2.2] at h2
      exact h2
    have HO2 := hid (fun W h => hO A xs c W h (by omega))
    obtain ⟨mL, mP, mK, mZ⟩ := of_m xs (by omega)
    have HB2' : Hid (∀ W a p, LfIn W (ofL xs) a → PrIn W (ofP xs) p → Calls Try.prog 10 #[.agg (ndV (ofK xs) (ofL xs) a (ofP xs) p)] W (BysE W (nbX (ofK xs) (ofL xs) (ofP xs)) (nbE (ofK xs) (ofL xs) (ofP xs)))) := hid fun W a p h1 h2 => hB _ _ a _ p W ⟨h1, h2, mL, mP, mK, mZ⟩
    have HS1 : Hid (∀ W b q, LfIn W x b → PrIn W u q → LfIn W x a → PrIn W u p → Calls Try.prog 26 #[.agg (ndV k x b u q), .agg (ndV k x a u p)] W (RetB W true)) := hid fun W b q h1 h2 h3 h4 => by
      have h := hS k x b u q k x a u p W h1 h2 h3 h4 hlx hpx hk hk hs
      rw [sameNd_self] at h
      exact h
    have HS2 : Hid (∀ W b q, Calls Try.prog 26 #[.agg (ndV 0 lf0 b pr0 q), .agg (ndV 0 lf0 la0 pr0 pa0)] W (RetB W true)) := hid fun W b q => by
      have h := hS 0 lf0 b pr0 q 0 lf0 la0 pr0 pa0 W ⟨Lie.nil, Lie.nil, Lie.nil, Lie.nil, Lie.nil⟩ ⟨Lie.nil, Lie.nil, Lie.nil⟩ (lf0_in W) (pr0_in W) lf0_le pr0_le (by decide) (by decide) (by decide)
      rw [sameNd_self] at h
      exact h
    have hyes := fun h => of_put (xs := xs) h
    have hofE1 : ¬ ofE xs = 0 → ofK xs = 0 ∧ ofL xs = lf0 ∧ ofP xs = pr0 := fun h => by unfold ofK ofL ofP; rw [if_neg h, if_neg h, if_neg h]; exact ⟨rfl, rfl, rfl⟩
    have hwE := ofE_lt xs
    have e3 : rightB k x u = true → nbX k x u = nodeBy k x u ∧ nbE k x u = 0 := fun h => by unfold nbX nbE; rw [if_pos h, if_pos h]; exact ⟨rfl, rfl⟩
    have e4 : ¬ rightB k x u = true → nbX k x u = [] ∧ nbE k x u = 3 := fun h => by unfold nbX nbE; rw [if_neg h, if_neg h]; exact ⟨rfl, rfl⟩
    have hfin : ofE xs = 0 → nbX (ofK xs) (ofL xs) (ofP xs) = xs ∧ nbE (ofK xs) (ofL xs) (ofP xs) = 0 := fun h => by unfold nbX nbE; rw [if_pos (hyes h).1, if_pos (hyes h).1]; exact ⟨(hyes h).2, rfl⟩
    obtain ⟨rb, hrb⟩ : ∃ s, s = rightB k x u := ⟨_, rfl⟩
    obtain ⟨NX, hNX⟩ : ∃ s, s = nbX k x u := ⟨_, rfl⟩
    obtain ⟨NE, hNE⟩ : ∃ s, s = nbE k x u := ⟨_, rfl⟩
    obtain ⟨ND, hND⟩ : ∃ s, s = nodeBy k x u := ⟨_, rfl⟩
    obtain ⟨K9, hK9⟩ : ∃ s, s = ofK xs := ⟨_, rfl⟩
    obtain ⟨L9, hL9⟩ : ∃ s, s = ofL xs := ⟨_, rfl⟩
    obtain ⟨P9, hP9⟩ : ∃ s, s = ofP xs := ⟨_, rfl⟩
    obtain ⟨E9, hE9⟩ : ∃ s, s = ofE xs := ⟨_, rfl⟩
    rw [← hrb] at HO1 e3 e4
    rw [← hNX, ← hNE] at HNB e3 e4
    rw [← hND] at HO1 e3
    rw [← hK9, ← hL9, ← hP9] at HO2 HB2' hofE1 hfin
    rw [← hE9] at HO2 hofE1 hfin hwE
    have hwE9 : wrap64 (E9 : Int) = (E9 : Int) := wrap64_in' (by omega) (by omega)
    have E3 := hid e3; have E4 := hid e4; have HF := hid hfin; have HN := hid hofE1; have HXL := hid hlen
    clear e3 e4 hfin hofE1 hwE hle2 hrb hNX hNE hND hK9 hL9 hP9 hE9 hl2 hp2 hlx hpx hsm hs hk hl hB HSM HA hyes mL mP mK mZ hmx hmu hlen hO hS
    have K2 := hid ((HB2.out.block _ (block_lt K0.out)).trans K0.out)
    have hbuild := build_nd
    go_wp2_with (with_reducible refine wpList_load_row rfl NdT (.tmp 2) rfl w.heap.size rfl NdT (ndV k x a u p) (0, 0) _ K2.out Try.underlying29 rfl infoNd16 ?_)
    refine (HNB.out _ HB2.out).mono ?_
    rintro e w3 ⟨A1, c1, rfl, hq, hb⟩
    have HB3 := hid (HB2.out.trans (hb.mono HB2.out.size))
    have HQ1 := hid hq
    clear hq hb K2 HB2 HNB
    cases rb with
    | false =>
      obtain ⟨h1, h2⟩ := E4.out (by decide)
      subst h1; subst h2
      have HB9 := HB3
      clear HB3 HQ1
      go_wp2_with fail
      refine (HO2.out _ (sq_on16 HQ0.out HB9.out)).mono ?_
      rintro e w10 ⟨a9, p9, rfl, hl9, hp9, hb⟩
      have HB10 := hid (HB9.out.trans (hb.mono HB9.out.size))
      have K10 := hid (setRow_heap (w10.alloc (.cells ndZ NdT)) w10.heap.size ndZ (ndV K9 L9 a9 P9 p9) NdT (0, 0) (heap_alloc_new w10 _))
      have HBn : Hid (Below w10.heap.size w10 ((w10.alloc (.cells ndZ NdT)).setRow w10.heap.size (ndV K9 L9 a9 P9 p9))) := hid (((Below.refl _ _).alloc (Nat.le_refl _) _).trans (below_put _ _ _ (Nat.le_refl _)))
      have HL9 := hid (hl9.on HBn.out); have HP9 := hid (hp9.on HBn.out)
      have HB11 := hid (HB10.out.trans (HBn.out.mono HB10.out.size))
      have KZ10 := heap_alloc_new w10 (.cells ndZ NdT)
      clear hb hl9 hp9 HB10 HBn HB9
      by_cases h9 : E9 = 0
      · obtain ⟨f1, f2⟩ := HF.out h9
        rw [f1, f2] at HB2'
        subst h9
        clear f1 f2
        go_wp2_with (first | (with_reducible refine wpList_store_row rfl NdT (.tmp 9) _ rfl w10.heap.size (ndV K9 L9 a9 P9 p9) rfl rfl NdT ndZ KZ10 infoNd16 ndZ_size ndV_one ?_) | (with_reducible refine wpList_load_row rfl NdT (.tmp 9) rfl w10.heap.size rfl NdT (ndV K9 L9 a9 P9 p9) (0, 0) _ K10.out Try.underlying29 rfl infoNd16 ?_))
        refine (HB2'.out _ _ _ HL9.out HP9.out).mono ?_
        rintro e w12 ⟨A4, c4, rfl, hq, hb⟩
        have HB12 := hid (HB11.out.trans (hb.mono HB11.out.size)); have HQ4 := hid hq
        clear hq hb HB11 K10 HL9 HP9 KZ10
        go_wp2_with fail
        refine (SameB _ _ _ _ _ _ _ HQ4.out.lie (sq_on16 HQ0.out HB12.out).lie (by have := HXL.out; omega)).mono ?_
        rintro e w13 ⟨rfl, hb⟩
        rw [beq_self_eq_true]
        have HB13 := hid (HB12.out.trans (hb.mono HB12.out.size))
        clear hb
        go_wp2
        go_ret
        exact ⟨rfl, HB0.out.trans (HB13.out.mono HB0.out.size)⟩
      · have hz1 : ¬ (E9 : Int) = 0 := by omega
        have hz2 : ((E9 : Int) != 0) = true := by rw [bne_iff_ne]; exact hz1
        obtain ⟨n1, n2, n3⟩ := HN.out h9
        subst n1; subst n2; subst n3
        clear h9
        go_wp2_with (first | (with_reducible refine wpList_store_row rfl NdT (.tmp 9) _ rfl w10.heap.size (ndV 0 lf0 a9 pr0 p9) rfl rfl NdT ndZ KZ10 infoNd16 ndZ_size ndV_one ?_) | (with_reducible refine wpList_load_row rfl NdT (.tmp 9) rfl w10.heap.size rfl NdT (ndV 0 lf0 a9 pr0 p9) (0, 0) _ K10.out Try.underlying29 rfl infoNd16 ?_))
        refine (HS2.out _ _ _).mono ?_
        rintro e w12 ⟨rfl, hb⟩
        have HB12 := hid (HB11.out.trans (hb.mono HB11.out.size))
        clear hb
        go_wp2
        go_ret
        exact ⟨rfl, HB0.out.trans (HB12.out.mono HB0.out.size)⟩
    | true =>
      obtain ⟨h1, h2⟩ := E3.out rfl
      subst h1; subst h2
      go_wp2_with fail
      refine (HO1.out (by first | rfl | trivial) _ _ _ HQ1.out).mono ?_
      rintro e w4 ⟨a1, p1, rfl, hl1, hp1, hb⟩
      have HB4 := hid (HB3.out.trans (hb.mono HB3.out.size))
      have K4 := hid (setRow_heap (w4.alloc (.cells ndZ NdT)) w4.heap.size ndZ (ndV k x a1 u p1) NdT (0, 0) (heap_alloc_new w4 _))
      have HBn : Hid (Below w4.heap.size w4 ((w4.alloc (.cells ndZ NdT)).setRow w4.heap.size (ndV k x a1 u p1))) := hid (((Below.refl _ _).alloc (Nat.le_refl _) _).trans (below_put _ _ _ (Nat.le_refl _)))
      have HL4 := hid (hl1.on HBn.out); have HP4 := hid (hp1.on HBn.out); have HB5 := hid (HB4.out.trans (HBn.out.mono HB4.out.size))
      have KZ4 := heap_alloc_new w4 (.cells ndZ NdT)
      obtain ⟨q0, q1, q2, q3, q4, q5, q6, q7, q8, q9⟩ := nd_cells K4.out
      obtain ⟨s0, s1, s2, s3, s4, s5, s6, s7, s8, s9⟩ := nd_cells ((HB5.out.block _ (block_lt K0.out)).trans K0.out)
      clear hb hl1 hp1 HB4 HBn HB3 HQ1
      go_wp2_with (with_reducible refine wpList_store_row rfl NdT (.tmp 7) _ rfl w4.heap.size (ndV k x a1 u p1) rfl rfl NdT ndZ KZ4 infoNd16 ndZ_size ndV_one ?_)
      refine (HS1.out _ _ _ HL4.out HP4.out (HX.out.on HB5.out) (HU.out.on HB5.out)).mono ?_
      rintro e w9 ⟨rfl, hb⟩
      have HB9 := hid (HB5.out.trans (hb.mono HB5.out.size))
      clear hb HB5 K4 HL4 HP4 KZ4 q0 q1 q2 q3 q4 q5 q6 q7 q8 q9 s0 s1 s2 s3 s4 s5 s6 s7 s8 s9
      go_wp2_with fail
      refine (HO2.out _ (sq_on16 HQ0.out HB9.out)).mono ?_
      rintro e w10 ⟨a9, p9, rfl, hl9, hp9, hb⟩
      have HB10 := hid (HB9.out.trans (hb.mono HB9.out.size))
      have K10 := hid (setRow_heap (w10.alloc (.cells ndZ NdT)) w10.heap.size ndZ (ndV K9 L9 a9 P9 p9) NdT (0, 0) (heap_alloc_new w10 _))
      have HBn : Hid (Below w10.heap.size w10 ((w10.alloc (.cells ndZ NdT)).setRow w10.heap.size (ndV K9 L9 a9 P9 p9))) := hid (((Below.refl _ _).alloc (Nat.le_refl _) _).trans (below_put _ _ _ (Nat.le_refl _)))
      have HL9 := hid (hl9.on HBn.out); have HP9 := hid (hp9.on HBn.out)
      have HB11 := hid (HB10.out.trans (HBn.out.mono HB10.out.size))
      have KZ10 := heap_alloc_new w10 (.cells ndZ NdT)
      clear hb hl9 hp9 HB10 HBn HB9
      by_cases h9 : E9 = 0
      · obtain ⟨f1, f2⟩ := HF.out h9
        rw [f1, f2] at HB2'
        subst h9
        clear f1 f2
        go_wp2_with (first | (with_reducible refine wpList_store_row rfl NdT (.tmp 9) _ rfl w10.heap.size (ndV K9 L9 a9 P9 p9) rfl rfl NdT ndZ KZ10 infoNd16 ndZ_size ndV_one ?_) | (with_reducible refine wpList_load_row rfl NdT (.tmp 9) rfl w10.heap.size rfl NdT (ndV K9 L9 a9 P9 p9) (0, 0) _ K10.out Try.underlying29 rfl infoNd16 ?_))
        refine (HB2'.out _ _ _ HL9.out HP9.out).mono ?_
        rintro e w12 ⟨A4, c4, rfl, hq, hb⟩
        have HB12 := hid (HB11.out.trans (hb.mono HB11.out.size)); have HQ4 := hid hq
        clear hq hb HB11 K10 HL9 HP9 KZ10
        go_wp2_with fail
        refine (SameB _ _ _ _ _ _ _ HQ4.out.lie (sq_on16 HQ0.out HB12.out).lie (by have := HXL.out; omega)).mono ?_
        rintro e w13 ⟨rfl, hb⟩
        rw [beq_self_eq_true]
        have HB13 := hid (HB12.out.trans (hb.mono HB12.out.size))
        clear hb
        go_wp2
        go_ret
        exact ⟨rfl, HB0.out.trans (HB13.out.mono HB0.out.size)⟩
      · have hz1 : ¬ (E9 : Int) = 0 := by omega
        have hz2 : ((E9 : Int) != 0) = true := by rw [bne_iff_ne]; exact hz1
        obtain ⟨n1, n2, n3⟩ := HN.out h9
        subst n1; subst n2; subst n3
        clear h9
        go_wp2_with (first | (with_reducible refine wpList_store_row rfl NdT (.tmp 9) _ rfl w10.heap.size (ndV 0 lf0 a9 pr0 p9) rfl rfl NdT ndZ KZ10 infoNd16 ndZ_size ndV_one ?_) | (with_reducible refine wpList_load_row rfl NdT (.tmp 9) rfl w10.heap.size rfl NdT (ndV 0 lf0 a9 pr0 p9) (0, 0) _ K10.out Try.underlying29 rfl infoNd16 ?_))
        refine (HS2.out _ _ _).mono ?_
        rintro e w12 ⟨rfl, hb⟩
        have HB12 := hid (HB11.out.trans (hb.mono HB11.out.size))
        clear hb
        go_wp2
        go_ret
        exact ⟨rfl, HB0.out.trans (HB12.out.mono HB0.out.size)⟩
end Go.Proofs.Ytlgcdddgahjknaa
end
section
namespace Go.Proofs.Ytlgcdddgahjknaa
open Go Go.RowKit
set_option linter.unusedVariables false
set_option linter.unusedSimpArgs false
/-- A row between two marks whose cells may be written. -/
def Wr (V : World) (lo hi : Nat) (t : TypeId) (A : Option Addr) (n : Nat) (good : Value → Prop) : Prop := n = 0 ∨ ∃ g cur, A = some ⟨g, 0, none⟩ ∧ lo ≤ g ∧ g < hi ∧ V.heap[g]? = some (.cells cur t (0, 0)) ∧ ∀ j, j < n → ∃ u, cur[j]? = some u ∧ good u
def isU8 (u : Value) : Prop := ∃ m : Nat, m < 256 ∧ u = .int .u8 (m : Int)
theorem Wr.set {V : World} {lo hi : Nat} {t t0 : TypeId} {A : Option Addr} {n g j : Nat} {good : Value → Prop} {cur0 : Array Value} {u : Value} (h : Wr V lo hi t A n good) (hg : V.heap[g]? = some (.cells cur0 t0 (0, 0))) (hu : t = t0 → good u) : Wr (V.setCell ⟨g, j, none⟩ u) lo hi t A n good := by
  rcases h with h | ⟨p, cur, hA, h1, h2, h3, h4⟩
  · exact .inl h
  · by_cases hpg : p = g
    · subst hpg
      rw [h3] at hg
      injection hg with hg
      injection hg with e1 e2 _
      subst e1; subst e2
      refine .inr ⟨p, _, hA, h1, h2, block_set h3 j u, fun i hi => ?_⟩
      obtain ⟨v, hv, hgv⟩ := h4 i hi
      rw [Array.getElem?_setIfInBounds]
      split
      · next hji =>
        subst hji
        rw [if_pos (Array.getElem?_eq_some_iff.1 hv).1]
        exact ⟨u, rfl, hu rfl⟩
      · exact ⟨v, hv, hgv⟩
    · exact .inr ⟨p, cur, hA, h1, h2, (Below.heap_setCell _ _ _ _ hpg).trans h3, h4⟩
theorem Wr.blocks {V V' : World} {lo hi : Nat} {t : TypeId} {A : Option Addr} {n : Nat} {good : Value → Prop} (h : Wr V lo hi t A n good) (hk : ∀ g, g < hi → V'.heap[g]? = V.heap[g]?) : Wr V' lo hi t A n good := by
  rcases h with h | ⟨p, cur, hA, h1, h2, h3, h4⟩
  · exact .inl h
  · exact .inr ⟨p, cur, hA, h1, h2, (hk p h2).trans h3, h4⟩
theorem wr_of {V : World} {B : Nat} {t : TypeId} {A : Option Addr} {n c : Nat} {vs : List Value} {good : Value → Prop} (h : V.ownsRow B t 1 (.slice A n c) n vs) (hg : ∀ u ∈ vs, good u) : Wr V B V.heap.size t A n good := by
  rcases h.2 with ⟨-, h0⟩ | ⟨g, cap, cur, hv, hb, hc, h1, h2, h3, h4⟩
  · exact .inl h0
  · injection hv with hA _ _
    refine .inr ⟨g, cur, hA, hb, (Array.getElem?_eq_some_iff.1 hc).1, hc, fun j hj => ?_⟩
    have hl := h.1
    rw [Nat.mul_one] at hl h4
    have hj2 : j < vs.length := by omega
    refine ⟨vs[j], ?_, hg _ (List.getElem_mem hj2)⟩
    have h5 : (cur.toList.take n)[j]? = some vs[j] := by rw [h4]; exact List.getElem?_eq_getElem hj2
    rw [List.getElem?_take_of_lt hj] at h5
    simpa using h5
theorem bvs_u8 (xs : List UInt8) : ∀ u ∈ bvs xs, isU8 u := fun u hu => by
  unfold bvs at hu
  obtain ⟨x, -, rfl⟩ := List.mem_map.1 hu
  exact ⟨x.toNat, x.toNat_lt, rfl⟩
/-- All blocks but those between two marks are as they were. -/
def Kp (W V : World) (lo hi : Nat) : Prop := W.heap.size ≤ V.heap.size ∧ ∀ g, g < W.heap.size → (g < lo ∨ hi ≤ g) → V.heap[g]? = W.heap[g]?
theorem Kp.refl (W : World) (lo hi : Nat) : Kp W W lo hi := ⟨Nat.le_refl _, fun _ _ _ => rfl⟩
theorem Kp.set {W V : World} {lo hi g j : Nat} {u : Value} (h : Kp W V lo hi) (h1 : lo ≤ g) (h2 : g < hi) : Kp W (V.setCell ⟨g, j, none⟩ u) lo hi :=
  ⟨Nat.le_trans h.1 (by simp [World.setCell]), fun p hp hq => (Below.heap_setCell _ _ _ _ (show p ≠ g by omega)).trans (h.2 p hp hq)⟩
theorem Kp.drew {W V V' : World} {lo hi : Nat} (h : Kp W V lo hi) (hb : Below V.heap.size V V') : Kp W V' lo hi :=
  ⟨Nat.le_trans h.1 hb.size, fun p hp hq => (hb.block p (Nat.lt_of_lt_of_le hp h.1)).trans (h.2 p hp hq)⟩
theorem Kp.cell {W V : World} {lo hi : Nat} (h : Kp W V lo hi) {p : Addr} (h1 : p.block < W.heap.size) (hp : p.block < lo ∨ hi ≤ p.block) : V.cell? p = W.cell? p := by
  unfold World.cell?
  rw [h.2 _ h1 hp]
theorem wrap_step' (m k : Nat) (h : m + k ≤ 1000000000) : wrap64 ((m : Int) + (k : Int)) = ((m + k : Nat) : Int) := by rw [wrap64_in' (by omega) (by omega)]; omega
theorem cur_of {W : World} {g j : Nat} {cur : Array Value} {t : TypeId} {v : Value} (h : W.heap[g]? = some (.cells cur t (0, 0))) (hc : W.cell? ⟨g, j, none⟩ = some v) : cur[j]? = some v := by
  unfold World.cell? at hc
  rw [show (⟨g, j, none⟩ : Addr).block = g from rfl, h] at hc
  simpa using hc
theorem xor_255 : ∀ m : Fin 256, bits .xor .u8 (m.val : Int) 255 = ((m.val ^^^ 255 : Nat) : Int) := by decide +kernel
/-- The seven slices of bytes of a node. -/
def svA (x : Lf) (b : LA) (u : Pnt) (q : PA) : Nat → Option Addr × Nat × Nat
  | 0 => (b.a0, x.box.length, b.c0)
  | 1 => (b.a1, x.sign.length, b.c1)
  | 2 => (b.a2, x.ident.length, b.c2)
  | 3 => (b.a3, x.par.length, b.c3)
  | 4 => (b.a4, x.sig.length, b.c4)
  | 5 => (q.a0, u.box.length, q.c0)
  | _ => (q.a1, u.hash.length, q.c1)
def InvC (W0 W V : World) (lo hi : Nat) (sv : Nat → Option Addr × Nat × Nat) (q : PA) (n : Nat) : Prop := Kp W V lo hi ∧ Below W0.heap.size W0 V ∧ (∀ s, s < 7 → Wr V lo hi 5 (sv s).1 (sv s).2.1 isU8) ∧ Wr V lo hi 3 q.a2 n (fun _ => True)
set_option maxHeartbeats 8000000 in
theorem nodeCopies_any (hC : NdCopy) (hS : NdSame) (hA : Alive16) (k : Nat) (x : Lf) (a : LA) (u : Pnt) (p : PA) (k2 : Nat) (y : Lf) (a2 : LA) (v : Pnt) (p2 : PA) (w : World) (hx : LfIn w x a) (hu : PrIn w u p) (hs : x.src < 256) (hk : k < 256) (hl : Late64 u) (hx2 : LfIn w y a2) (hu2 : PrIn w v p2) (hs2 : y.src < 256) (hk2 : k2 < 256) (hl2 : Late64 v) :
    Calls Try.prog 7 #[.agg (ndV k x a u p), .agg (ndV k2 y a2 v p2)] w (RetB w true) := by
  have HA := hid hA
  have HSM := hid (fun W => Small16_any k x a u p W); have HSM2 := hid (fun W => Small16_any k2 y a2 v p2 W)
  obtain ⟨W0, hW0⟩ : ∃ W, W = (w.alloc (.cells (ndV k x a u p) NdT)).alloc (.cells (ndV k2 y a2 v p2) NdT) := ⟨_, rfl⟩
  have HB0 : Hid (Below w.heap.size w W0) := hid (by rw [hW0]; exact ((Below.refl _ _).alloc (Nat.le_refl _) _).alloc (by simp) _)
  have K0 : Hid (W0.heap[w.heap.size]? = some (.cells (ndV k x a u p) NdT (0, 0))) := hid (by rw [hW0]; exact (Below.heap_alloc _ _ _ (by simp)).trans (heap_alloc_new w _))
  have K1 : Hid (W0.heap[w.heap.size + 1]? = some (.cells (ndV k2 y a2 v p2) NdT (0, 0))) := hid (by rw [hW0]; have h := heap_alloc_new (w.alloc (.cells (ndV k x a u p) NdT)) (.cells (ndV k2 y a2 v p2) NdT); simpa using h)
  have HX := hid (hx.on HB0.out); have HU := hid (hu.on HB0.out); have HX2 := hid (hx2.on HB0.out); have HU2 := hid (hu2.on HB0.out)
  have HK0 := hid hW0
  clear hA hx hu hx2 hu2 hW0
  go_enter Try.func7, Try.ntmps7
  go_wp2_with fail
  rw [← HK0.out]
  refine (HA.out _).mono ?_
  rintro e w1 ⟨rfl, hb⟩
  have HB1 := hid hb
  have K01 := hid ((hb.block _ (block_lt K0.out)).trans K0.out)
  clear hb
  go_wp2_with (with_reducible refine wpList_load_row rfl NdT (.tmp 2) rfl w.heap.size rfl NdT (ndV k x a u p) (0, 0) _ K01.out Try.underlying29 rfl infoNd16 ?_)
  refine (HSM.out _).mono ?_
  rintro e w2 ⟨rfl, hb⟩
  have HB2 := hid (HB1.out.trans (hb.mono HB1.out.size))
  clear hb HB1 K01
  obtain ⟨sm, hsm⟩ : ∃ s, s = smallB x u := ⟨_, rfl⟩
  rw [← hsm]
  cases sm with
  | false =>
    clear hsm
    go_wp2
    go_ret
    exact ⟨rfl, HB0.out.trans (HB2.out.mono HB0.out.size)⟩
  | true =>
    have HSS := hid hsm
    obtain ⟨s0, s1, s2, s3, s4, s5, s6, s7, s8, s9⟩ := nd_cells ((HB2.out.block _ (block_lt K1.out)).trans K1.out)
    clear hsm
    go_wp2_with fail
    refine (HSM2.out _).mono ?_
    rintro e w3 ⟨rfl, hb⟩
    have HB3 := hid (HB2.out.trans (hb.mono HB2.out.size))
    clear hb HB2 s0 s1 s2 s3 s4 s5 s6 s7 s8 s9
    obtain ⟨sm, hsm⟩ : ∃ s, s = smallB y v := ⟨_, rfl⟩
    rw [← hsm]
    cases sm with
    | false =>
      clear hsm
      go_wp2
      go_ret
      exact ⟨rfl, HB0.out.trans (HB3.out.mono HB0.out.size)⟩
    | true =>
      obtain ⟨hl20, hp20, hlx, hpx⟩ := small_le HSS.out.symm hs
      obtain ⟨-, -, hly, hpy⟩ := small_le hsm.symm hs2
      have HCO : Hid (∀ W, Below W0.heap.size W0 W → Calls Try.prog 27 #[.agg (ndV k x a u p)] W fun e w' => ∃ b q, e = .returned (.agg (ndV k x b u q)) ∧ LfOwn W w' x b ∧ OwnB w' W.heap.size (.slice q.a0 u.box.length q.c0) u.box ∧ OwnB w' W.heap.size (.slice q.a1 u.hash.length q.c1) u.hash ∧ w'.ownsRow W.heap.size 3 1 (.slice q.a2 u.late.length q.c2) u.late.length (izs u.late) ∧ Below W.heap.size W w') := hid fun W h => hC k x a u p W ⟨HX.out.on h, HU.out.on h, lf200_m hl20, pr200_m hp20, hk, hl⟩
      have HN1 : Hid (∀ W, Below W0.heap.size W0 W → Calls Try.prog 26 #[.agg (ndV k x a u p), .agg (ndV k2 y a2 v p2)] W (RetB W (sameNd k x u k2 y v))) := hid fun W h => hS k x a u p k2 y a2 v p2 W (HX.out.on h) (HU.out.on h) (HX2.out.on h) (HU2.out.on h) hlx hpx hk hk2 hs2
      have HN2 : Hid (∀ W, Below W0.heap.size W0 W → Calls Try.prog 19 #[.agg (ndV k x a u p), .agg (ndV k2 y a2 v p2)] W (RetB W (sameNd k x u k2 y v))) := hid fun W h => Same16_any k x a u p k2 y a2 v p2 W (HX.out.on h) (HX2.out.on h) (HU.out.on h) (HU2.out.on h) hlx hpx
      have HN3 : Hid (∀ W, Below W0.heap.size W0 W → Calls Try.prog 26 #[.agg (ndV k x a u p), .agg (ndV k x a u p)] W (RetB W true)) := hid fun W h => by
        have h2 := hS k x a u p k x a u p W (HX.out.on h) (HU.out.on h) (HX.out.on h) (HU.out.on h) hlx hpx hk hk hs
        rw [sameNd_self] at h2
        exact h2
      have HSN : Hid (∀ W b q b' q', LfIn W x b → PrIn W u q → LfIn W x b' → PrIn W u q' → Calls Try.prog 19 #[.agg (ndV k x b u q), .agg (ndV k x b' u q')] W (RetB W true)) := hid fun W b q b' q' h1 h2 h3 h4 => by
        have h := Same16_any k x b u q k x b' u q' W h1 h3 h2 h4 hlx hpx
        rw [sameNd_self] at h
        exact h
      have hnb : ∀ (W : World) (p q : Bool), (binOp .neq 4 (.bool p) (.bool q)).run Try.prog W = .ok (.bool (!(p == q))) W := fun W p q => run_neq_bool W 4 p q Try.underlying4
      obtain ⟨sb, hsb⟩ : ∃ s, s = sameNd k x u k2 y v := ⟨_, rfl⟩
      rw [← hsb] at HN1 HN2
      have HL20 := hid hl20; have HP20 := hid hp20
      clear hsb hsm HSS hl20 hp20 hlx hpx hly hpy hs hk hl hs2 hk2 hl2 hC hS HA HSM HSM2 HX2 HU2
      have K03 := hid ((HB3.out.block _ (block_lt K0.out)).trans K0.out); have K13 := hid ((HB3.out.block _ (block_lt K1.out)).trans K1.out)
      go_upto_region 5 with fail
      refine wp_region_grA 12 (by kernel_rfl) (by decide) ?_
      refine wpGrA_take (i := 0) (.agg (ndV k x a u p)) rfl (by kernel_rfl) (by kernel_rfl) (fun _ _ _ h => h) (yG_part (by rfl) NdT (.tmp 2) rfl w.heap.size 0 rfl NdT (ndV k x a u p) (ndV k x a u p) (0, 0) _ K03.out rfl Try.underlying29 rfl infoNd16) ?_
      (try simp only [Act.put, List.getElem_toArray, List.getElem_cons_succ, List.getElem_cons_zero, List.setIfInBounds_toArray, List.set_cons_zero, List.set_cons_succ])
      refine wpGrA_take (i := 1) (.agg (ndV k2 y a2 v p2)) rfl (by kernel_rfl) (by kernel_rfl) (fun _ _ _ h => h) (yG_part (by rfl) NdT (.tmp 3) rfl (w.heap.size + 1) 0 rfl NdT (ndV k2 y a2 v p2) (ndV k2 y a2 v p2) (0, 0) _ K13.out rfl Try.underlying29 rfl infoNd16) ?_
      (try simp only [Act.put, List.getElem_toArray, List.getElem_cons_succ, List.getElem_cons_zero, List.setIfInBounds_toArray, List.set_cons_zero, List.set_cons_succ])
      refine wpGrA_take (i := 2) (.bool sb) rfl (by kernel_rfl) (by kernel_rfl) (fun _ _ _ h => h) (yG_call (by rfl) (fun w' => by go_simp) (fun w' hb => HN1.out w' (HB3.out.trans (hb.mono HB3.out.size)))) ?_
      (try simp only [Act.put, List.getElem_toArray, List.getElem_cons_succ, List.getElem_cons_zero, List.setIfInBounds_toArray, List.set_cons_zero, List.set_cons_succ])
      refine wpGrA_take (i := 3) (.agg (ndV k x a u p)) rfl (by kernel_rfl) (by kernel_rfl) (fun _ _ _ h => h) (yG_part (by rfl) NdT (.tmp 2) rfl w.heap.size 0 rfl NdT (ndV k x a u p) (ndV k x a u p) (0, 0) _ K03.out rfl Try.underlying29 rfl infoNd16) ?_
      (try simp only [Act.put, List.getElem_toArray, List.getElem_cons_succ, List.getElem_cons_zero, List.setIfInBounds_toArray, List.set_cons_zero, List.set_cons_succ])
      refine wpGrA_take (i := 4) (.agg (ndV k2 y a2 v p2)) rfl (by kernel_rfl) (by kernel_rfl) (fun _ _ _ h => h) (yG_part (by rfl) NdT (.tmp 3) rfl (w.heap.size + 1) 0 rfl NdT (ndV k2 y a2 v p2) (ndV k2 y a2 v p2) (0, 0) _ K13.out rfl Try.underlying29 rfl infoNd16) ?_
      (try simp only [Act.put, List.getElem_toArray, List.getElem_cons_succ, List.getElem_cons_zero, List.setIfInBounds_toArray, List.set_cons_zero, List.set_cons_succ])
      refine wpGrA_take (i := 5) (.bool sb) rfl (by kernel_rfl) (by kernel_rfl) (fun _ _ _ h => h) (yG_call (by rfl) (fun w' => by go_simp) (fun w' hb => HN2.out w' (HB3.out.trans (hb.mono HB3.out.size)))) ?_
      (try simp only [Act.put, List.getElem_toArray, List.getElem_cons_succ, List.getElem_cons_zero, List.setIfInBounds_toArray, List.set_cons_zero, List.set_cons_succ])
      refine wpGrA_take (i := 6) (.bool false) rfl (by kernel_rfl) (by kernel_rfl) (fun _ _ _ h => h) (yG_val _ (by rfl) (fun w' hb => by have hn := hnb w' sb sb; rw [beq_self_eq_true] at hn; (go_simp; try rfl))) ?_
      (try simp only [Act.put, List.getElem_toArray, List.getElem_cons_succ, List.getElem_cons_zero, List.setIfInBounds_toArray, List.set_cons_zero, List.set_cons_succ])
      refine wpGrA_take (i := 7) (.bool false) rfl (by kernel_rfl) (by kernel_rfl) (fun _ _ _ h => h) (yG_val _ (by rfl) (fun w' hb => by (go_simp; try rfl))) ?_
      (try simp only [Act.put, List.getElem_toArray, List.getElem_cons_succ, List.getElem_cons_zero, List.setIfInBounds_toArray, List.set_cons_zero, List.set_cons_succ])
      refine wpGrA_take (i := 8) (.agg (ndV k x a u p)) rfl (by kernel_rfl) (by kernel_rfl) (fun _ _ _ h => h) (yG_part (by rfl) NdT (.tmp 2) rfl w.heap.size 0 rfl NdT (ndV k x a u p) (ndV k x a u p) (0, 0) _ K03.out rfl Try.underlying29 rfl infoNd16) ?_
      (try simp only [Act.put, List.getElem_toArray, List.getElem_cons_succ, List.getElem_cons_zero, List.setIfInBounds_toArray, List.set_cons_zero, List.set_cons_succ])
      refine wpGrA_take (i := 9) (.agg (ndV k x a u p)) rfl (by kernel_rfl) (by kernel_rfl) (fun _ _ _ h => h) (yG_part (by rfl) NdT (.tmp 2) rfl w.heap.size 0 rfl NdT (ndV k x a u p) (ndV k x a u p) (0, 0) _ K03.out rfl Try.underlying29 rfl infoNd16) ?_
      (try simp only [Act.put, List.getElem_toArray, List.getElem_cons_succ, List.getElem_cons_zero, List.setIfInBounds_toArray, List.set_cons_zero, List.set_cons_succ])
      refine wpGrA_take (i := 10) (.bool true) rfl (by kernel_rfl) (by kernel_rfl) (fun _ _ _ h => h) (yG_call (by rfl) (fun w' => by go_simp) (fun w' hb => HN3.out w' (HB3.out.trans (hb.mono HB3.out.size)))) ?_
      (try simp only [Act.put, List.getElem_toArray, List.getElem_cons_succ, List.getElem_cons_zero, List.setIfInBounds_toArray, List.set_cons_zero, List.set_cons_succ])
      refine wpGrA_take (i := 11) (.bool false) rfl (by kernel_rfl) (by kernel_rfl) (fun _ _ _ h => h) (yG_val _ (by rfl) (fun w' hb => by (go_simp; try rfl))) ?_
      (try simp only [Act.put, List.getElem_toArray, List.getElem_cons_succ, List.getElem_cons_zero, List.setIfInBounds_toArray, List.set_cons_zero, List.set_cons_succ])
      refine wpGrA_end (by kernel_rfl) ?_
      intro w5 hb5
      simp only [List.drop_succ_cons, List.drop_zero]
      have HB5 := hid (HB3.out.trans (hb5.mono HB3.out.size))
      clear hb5 HB3 K03 K13 HN1 HN2 HN3 hnb K1
      have K05 := hid ((HB5.out.block _ (block_lt K0.out)).trans K0.out)
      go_wp2_with (with_reducible refine wpList_load_row rfl NdT (.tmp 2) rfl w.heap.size rfl NdT (ndV k x a u p) (0, 0) _ K05.out Try.underlying29 rfl infoNd16 ?_)
      refine (HCO.out _ HB5.out).mono ?_
      rintro e w6 ⟨b, q, rfl, ho1, ho2, ho3, ho4, hb⟩
      have HB5s := hid HB5.out.size
      have HB6 := hid (HB5.out.trans (hb.mono HB5.out.size))
      have WR : Hid (∀ s, s < 7 → Wr w6 w5.heap.size w6.heap.size 5 (svA x b u q s).1 (svA x b u q s).2.1 isU8) := hid fun s hs => by
        rcases s with _ | _ | _ | _ | _ | _ | _ | s
        · exact wr_of ho1.1 (bvs_u8 _)
        · exact wr_of ho1.2.1 (bvs_u8 _)
        · exact wr_of ho1.2.2.1 (bvs_u8 _)
        · exact wr_of ho1.2.2.2.1 (bvs_u8 _)
        · exact wr_of ho1.2.2.2.2 (bvs_u8 _)
        · exact wr_of ho2 (bvs_u8 _)
        · exact wr_of ho3 (bvs_u8 _)
        · omega
      have WI : Hid (Wr w6 w5.heap.size w6.heap.size 3 q.a2 u.late.length (fun _ => True)) := hid (wr_of ho4 (fun _ _ => trivial))
      have own6 : ∀ {t : TypeId} {A : Option Addr} {c n : Nat} {vs : List Value}, w6.ownsRow w5.heap.size t 1 (.slice A n c) n vs → Lie w6 w6.heap.size A vs := fun h => (own_lie h (fun _ _ _ => rfl) (Nat.le_refl _)).1
      have HLb : Hid (LfIn w6 x b) := hid ⟨own6 ho1.1, own6 ho1.2.1, own6 ho1.2.2.1, own6 ho1.2.2.2.1, own6 ho1.2.2.2.2⟩
      have HPq : Hid (PrIn w6 u q) := hid ⟨own6 ho2, own6 ho3, own6 ho4⟩
      have HLO := hid hb.size
      have K5 := hid (setRow_heap (w6.alloc (.cells ndZ NdT)) w6.heap.size ndZ (ndV k x b u q) NdT (0, 0) (heap_alloc_new w6 _))
      have HBn : Hid (Below w6.heap.size w6 ((w6.alloc (.cells ndZ NdT)).setRow w6.heap.size (ndV k x b u q))) := hid (((Below.refl _ _).alloc (Nat.le_refl _) _).trans (below_put _ _ _ (Nat.le_refl _)))
      have HB7 := hid (HB6.out.trans (HBn.out.mono HB6.out.size))
      have KZ6 := heap_alloc_new w6 (.cells ndZ NdT)
      have K07 := hid ((HB7.out.block _ (block_lt K0.out)).trans K0.out)
      have H67 := HBn
      have HS7 : Hid (((w6.alloc (.cells ndZ NdT)).setRow w6.heap.size (ndV k x b u q)).heap.size = w6.heap.size + 1) := hid (by simp)
      clear own6 ho1 ho2 ho3 ho4 hb HB5 HB6 K05 HBn
      go_wp2_with (first | (with_reducible refine wpList_store_row rfl NdT (.tmp 5) _ rfl w6.heap.size (ndV k x b u q) rfl rfl NdT ndZ KZ6 infoNd16 ndZ_size ndV_one ?_) | (with_reducible refine wpList_load_row rfl NdT (.tmp 2) rfl w.heap.size rfl NdT (ndV k x a u p) (0, 0) _ K07.out Try.underlying29 rfl infoNd16 ?_))
      generalize (w6.alloc (Obj.cells ndZ NdT)).setRow w6.heap.size (ndV k x b u q) = w7 at K5 HB7 K07 H67 HS7 ⊢
      refine (HCO.out _ HB7.out).mono ?_
      rintro e w8 ⟨b2, q2, rfl, ho1, ho2, ho3, ho4, hb⟩
      have HB8 := hid (HB7.out.trans (hb.mono HB7.out.size))
      have H68 := hid (H67.out.trans (hb.mono H67.out.size))
      have H78 := hid hb.size
      have K58 := hid ((hb.block _ (block_lt K5.out)).trans K5.out)
      have HO1 := hid ho1; have HO2 := hid ho2; have HO3 := hid ho3; have HO4 := hid ho4
      have K6 := hid (setRow_heap (w8.alloc (.cells ndZ NdT)) w8.heap.size ndZ (ndV k x b2 u q2) NdT (0, 0) (heap_alloc_new w8 _))
      have HBn : Hid (Below w8.heap.size w8 ((w8.alloc (.cells ndZ NdT)).setRow w8.heap.size (ndV k x b2 u q2))) := hid (((Below.refl _ _).alloc (Nat.le_refl _) _).trans (below_put _ _ _ (Nat.le_refl _)))
      have HB9 := hid (HB8.out.trans (HBn.out.mono HB8.out.size)); have H69 := hid (H68.out.trans (HBn.out.mono H68.out.size))
      have K59 := hid ((HBn.out.block _ (block_lt K58.out)).trans K58.out)
      have K09 := hid ((HB9.out.block _ (block_lt K0.out)).trans K0.out)
      have H89 := HBn
      have KZ8 := heap_alloc_new w8 (.cells ndZ NdT)
      clear ho1 ho2 ho3 ho4 hb HB7 HB8 K5 K58 K07 H67 H68 HBn KZ6 HCO
      go_wp2_with (first | (with_reducible refine wpList_store_row rfl NdT (.tmp 6) _ rfl w8.heap.size (ndV k x b2 u q2) rfl rfl NdT ndZ KZ8 infoNd16 ndZ_size ndV_one ?_) | (with_reducible refine wpList_load_row rfl NdT (.tmp 5) rfl w6.heap.size rfl NdT (ndV k x b u q) (0, 0) _ K59.out Try.underlying29 rfl infoNd16 ?_) | (with_reducible refine wpList_load_row rfl NdT (.tmp 2) rfl w.heap.size rfl NdT (ndV k x a u p) (0, 0) _ K09.out Try.underlying29 rfl infoNd16 ?_))
      generalize (w8.alloc (Obj.cells ndZ NdT)).setRow w8.heap.size (ndV k x b2 u q2) = w9 at K6 HB9 H69 K59 K09 H89 ⊢
      refine (HSN.out _ _ _ _ _ (HLb.out.on H69.out) (HPq.out.on H69.out) (HX.out.on HB9.out) (HU.out.on HB9.out)).mono ?_
      rintro e w10 ⟨rfl, hb⟩
      have HB10 := hid (HB9.out.trans (hb.mono HB9.out.size)); have H610 := hid (H69.out.trans (hb.mono H69.out.size)); have H810 := hid (H89.out.trans (hb.mono H89.out.size))
      have K510 := hid ((hb.block _ (block_lt K59.out)).trans K59.out); have K610 := hid ((hb.block _ (block_lt K6.out)).trans K6.out)
      obtain ⟨s0, s1, s2, s3, s4, s5, s6, s7, s8, s9⟩ := nd_cells K510.out
      clear hb HB9 H69 K59 K09 H89 K6 KZ8 HLb HPq
      go_wp2_with fail
      have KA := hid (heap_alloc_new w10 (.cells #[.slice b.a0 x.box.length b.c0, .slice b.a1 x.sign.length b.c1, .slice b.a2 x.ident.length b.c2, .slice b.a3 x.par.length b.c3, .slice b.a4 x.sig.length b.c4, .slice q.a0 u.box.length q.c0, .slice q.a1 u.hash.length q.c1] 22))
      have HBn : Hid (Below w10.heap.size w10 (w10.alloc (.cells #[.slice b.a0 x.box.length b.c0, .slice b.a1 x.sign.length b.c1, .slice b.a2 x.ident.length b.c2, .slice b.a3 x.par.length b.c3, .slice b.a4 x.sig.length b.c4, .slice q.a0 u.box.length q.c0, .slice q.a1 u.hash.length q.c1] 22))) := hid ((Below.refl _ _).alloc (Nat.le_refl _) _)
      have HB11 := hid (HB10.out.trans (HBn.out.mono HB10.out.size)); have H611 := hid (H610.out.trans (HBn.out.mono H610.out.size)); have H811 := hid (H810.out.trans (HBn.out.mono H810.out.size))
      have K511 := hid ((HBn.out.block _ (block_lt K510.out)).trans K510.out); have K611 := hid ((HBn.out.block _ (block_lt K610.out)).trans K610.out)
      have HS11 : Hid (w10.heap.size < (w10.alloc (.cells #[.slice b.a0 x.box.length b.c0, .slice b.a1 x.sign.length b.c1, .slice b.a2 x.ident.length b.c2, .slice b.a3 x.par.length b.c3, .slice b.a4 x.sig.length b.c4, .slice q.a0 u.box.length q.c0, .slice q.a1 u.hash.length q.c1] 22)).heap.size) := hid (by simp)
      have H610s := hid H610.out.size; have H810s := hid H810.out.size
      clear s0 s1 s2 s3 s4 s5 s6 s7 s8 s9 HB10 H610 H810 K510 K610 HBn
      generalize w10.alloc (Obj.cells #[Value.slice b.a0 x.box.length b.c0, Value.slice b.a1 x.sign.length b.c1, Value.slice b.a2 x.ident.length b.c2, Value.slice b.a3 x.par.length b.c3, Value.slice b.a4 x.sig.length b.c4, Value.slice q.a0 u.box.length q.c0, Value.slice q.a1 u.hash.length q.c1] 22) = W11 at KA HB11 H611 H811 K511 K611 HS11 ⊢
      have HCL : Hid (∀ s, s < 7 → W11.cell? ⟨w10.heap.size, s, none⟩ = some (.slice (svA x b u q s).1 (svA x b u q s).2.1 (svA x b u q s).2.2)) := hid fun s hs => by
        rcases s with _ | _ | _ | _ | _ | _ | _ | s
        · exact cell_of KA.out 0 _ rfl
        · exact cell_of KA.out 1 _ rfl
        · exact cell_of KA.out 2 _ rfl
        · exact cell_of KA.out 3 _ rfl
        · exact cell_of KA.out 4 _ rfl
        · exact cell_of KA.out 5 _ rfl
        · exact cell_of KA.out 6 _ rfl
        · omega
      have HLN : Hid (∀ s, (svA x b u q s).2.1 ≤ 200) := hid fun s => by
        obtain ⟨l0, l1, l2, l3, l4, -⟩ := HL20.out; obtain ⟨l5, l6, -⟩ := HP20.out
        rcases s with _ | _ | _ | _ | _ | _ | s
        · exact l0
        · exact l1
        · exact l2
        · exact l3
        · exact l4
        · exact l5
        · exact l6
      obtain ⟨sv, hsv⟩ : ∃ f, f = svA x b u q := ⟨_, rfl⟩
      rw [← hsv] at WR HCL HLN
      obtain ⟨lo, hlo⟩ : ∃ t, t = w5.heap.size := ⟨_, rfl⟩
      obtain ⟨hi', hhi⟩ : ∃ t, t = w6.heap.size := ⟨_, rfl⟩
      rw [← hlo] at WR WI
      rw [← hhi] at WR WI
      have HINV0 : Hid (InvC W0 W11 W11 lo hi' sv q u.late.length) := hid ⟨Kp.refl _ _ _, HB11.out, fun s hs => (WR.out s hs).blocks (fun g hg => H611.out.block g (by omega)), WI.out.blocks (fun g hg => H611.out.block g (by omega))⟩
      have HHI : Hid (hi' ≤ w10.heap.size) := hid (by rw [hhi]; exact H610s.out)
      have HHI5 : Hid (hi' = w6.heap.size) := hid hhi
      have HW0 : Hid (W0.heap.size ≤ lo) := hid (by rw [hlo]; exact HB5s.out)
      clear hsv WR WI hlo hhi KA
      go_loopg [8] 7 (fun r i' wr => ∃ i : Nat, i + r = 7 ∧ i' = .int .i64 (i : Int) ∧ InvC W0 W11 wr lo hi' sv q u.late.length)
      case atStart => exact ⟨0, by omega, rfl, HINV0.out⟩
      case round =>
        clear HINV0
        obtain ⟨i, hir, rfl, hinv⟩ := hrel
        by_cases h7 : i < 7
        · have H7 : Hid ((i : Int) < 7) := hid (by omega)
          have H8 : Hid ((0 : Int) ≤ (i : Int)) := hid (by omega)
          have HI7 := hid h7; have HIR := hid hir; have HINV := hid hinv
          have HCi := hid (HCL.out i h7)
          have HNi := hid (HLN.out i)
          obtain ⟨AA, hAA⟩ : ∃ t, t = (sv i).1 := ⟨_, rfl⟩
          obtain ⟨n, hn⟩ : ∃ t, t = (sv i).2.1 := ⟨_, rfl⟩
          obtain ⟨cc, hcc⟩ : ∃ t, t = (sv i).2.2 := ⟨_, rfl⟩
          rw [← hAA, ← hn, ← hcc] at HCi
          rw [← hn] at HNi
          have HSV : Hid (AA = (sv i).1 ∧ n = (sv i).2.1) := hid ⟨hAA, hn⟩
          have hwi : wrap64 ((i : Int) + 1) = ((i + 1 : Nat) : Int) := wrap_step' i 1 (by omega)
          have h7i := H7.out
          clear hinv hir h7 hAA hn hcc
          go_wp2
          go_loopg [9] n (fun r k' wr => ∃ j : Nat, j + r = n ∧ k' = .int .i64 (j : Int) ∧ InvC W0 W11 wr lo hi' sv q u.late.length)
          case atStart => exact ⟨0, by omega, rfl, HINV.out⟩
          case round =>
            clear HINV
            obtain ⟨j, hjr, rfl, hinv⟩ := hrel
            have HINV := hid hinv; have HJR := hid hjr
            have GA : Hid (w10.heap.size < wr.heap.size) := hid (Nat.lt_of_lt_of_le HS11.out hinv.1.1)
            have CA : Hid (wr.cell? ⟨w10.heap.size, i, none⟩ = some (.slice AA n cc)) := hid ((hinv.1.cell (p := ⟨w10.heap.size, i, none⟩) HS11.out (.inr HHI.out)).trans HCi.out)
            have ca := CA.out
            have h7i := H7.out; have h8i := H8.out
            by_cases hj : j < n
            · obtain h0 | ⟨g, cur, hA, hg1, hg2, hg3, hg4⟩ := hinv.2.2.1 i HI7.out
              · rw [← HSV.out.2] at h0; omega
              rw [← HSV.out.1] at hA
              rw [← HSV.out.2] at hg4
              subst hA
              obtain ⟨uu, huu, m, hm, rfl⟩ := hg4 j hj
              have GG : Hid (g < wr.heap.size) := hid (block_lt hg3)
              have CB : Hid (wr.cell? ⟨g, j, none⟩ = some (.int .u8 (m : Int))) := hid (cell_of hg3 j _ huu)
              have HXR : Hid (bits .xor .u8 (m : Int) 255 = ((m ^^^ 255 : Nat) : Int)) := hid (xor_255 ⟨m, hm⟩)
              have HMX : Hid (m ^^^ 255 < 256) := hid (Nat.xor_lt_two_pow (n := 8) hm (by decide))
              have HJN : Hid ((j : Int) < (n : Int)) := hid (by omega)
              have HJN2 : Hid ((0 : Int) ≤ (j : Int)) := hid (by omega)
              have HGR := hid hg3; have HG1 := hid hg1; have HG2 := hid hg2; have HJ := hid hj
              have hwj : wrap64 ((j : Int) + 1) = ((j + 1 : Nat) : Int) := wrap_step' j 1 (by have := HNi.out; omega)
              have hjn := HJN.out
              clear hinv hjr huu hm hg3 hg1 hg2 hg4 hj
              go_upto_region 18 with fail
              refine wp_region_grA 14 (by kernel_rfl) (by decide) ?_
              refine wpGrA_take (i := 0) (.slice (some ⟨w10.heap.size, 0, none⟩) 7 7) rfl (by kernel_rfl) (by kernel_rfl) (fun _ _ _ h => h) (yieldsG_val _ rfl (fun w' hb => by go_simp)) ?_
              (try simp only [Act.put, List.getElem_toArray, List.getElem_cons_succ, List.getElem_cons_zero, List.setIfInBounds_toArray, List.set_cons_zero, List.set_cons_succ])
              refine wpGrA_take (i := 1) (.int .i64 (i : Int)) rfl (by kernel_rfl) (by kernel_rfl) (fun _ _ _ h => h) (yieldsG_val _ rfl (fun w' hb => by go_simp)) ?_
              (try simp only [Act.put, List.getElem_toArray, List.getElem_cons_succ, List.getElem_cons_zero, List.setIfInBounds_toArray, List.set_cons_zero, List.set_cons_succ])
              refine wpGrA_take (i := 2) (.pointer (some ⟨w10.heap.size, i, none⟩)) rfl (by kernel_rfl) (by kernel_rfl) (fun _ _ _ h => h) (yieldsG_val _ rfl (fun w' hb => by have h7 := H7.out; have h8 := H8.out; go_simp)) ?_
              (try simp only [Act.put, List.getElem_toArray, List.getElem_cons_succ, List.getElem_cons_zero, List.setIfInBounds_toArray, List.set_cons_zero, List.set_cons_succ])
              refine wpGrA_take (i := 3) (.slice (some ⟨g, 0, none⟩) n cc) rfl (by kernel_rfl) (by kernel_rfl) (fun _ _ _ h => h) (yieldsG_val _ rfl (fun w' hb => by have hc := (hb.cell (p := ⟨w10.heap.size, i, none⟩) GA.out).trans CA.out; go_simp)) ?_
              (try simp only [Act.put, List.getElem_toArray, List.getElem_cons_succ, List.getElem_cons_zero, List.setIfInBounds_toArray, List.set_cons_zero, List.set_cons_succ])
              refine wpGrA_take (i := 4) (.int .i64 (j : Int)) rfl (by kernel_rfl) (by kernel_rfl) (fun _ _ _ h => h) (yieldsG_val _ rfl (fun w' hb => by go_simp)) ?_
              (try simp only [Act.put, List.getElem_toArray, List.getElem_cons_succ, List.getElem_cons_zero, List.setIfInBounds_toArray, List.set_cons_zero, List.set_cons_succ])
              refine wpGrA_take (i := 5) (.slice (some ⟨w10.heap.size, 0, none⟩) 7 7) rfl (by kernel_rfl) (by kernel_rfl) (fun _ _ _ h => h) (yieldsG_val _ rfl (fun w' hb => by go_simp)) ?_
              (try simp only [Act.put, List.getElem_toArray, List.getElem_cons_succ, List.getElem_cons_zero, List.setIfInBounds_toArray, List.set_cons_zero, List.set_cons_succ])
              refine wpGrA_take (i := 6) (.int .i64 (i : Int)) rfl (by kernel_rfl) (by kernel_rfl) (fun _ _ _ h => h) (yieldsG_val _ rfl (fun w' hb => by go_simp)) ?_
              (try simp only [Act.put, List.getElem_toArray, List.getElem_cons_succ, List.getElem_cons_zero, List.setIfInBounds_toArray, List.set_cons_zero, List.set_cons_succ])
              refine wpGrA_take (i := 7) (.pointer (some ⟨w10.heap.size, i, none⟩)) rfl (by kernel_rfl) (by kernel_rfl) (fun _ _ _ h => h) (yieldsG_val _ rfl (fun w' hb => by have h7 := H7.out; have h8 := H8.out; go_simp)) ?_
              (try simp only [Act.put, List.getElem_toArray, List.getElem_cons_succ, List.getElem_cons_zero, List.setIfInBounds_toArray, List.set_cons_zero, List.set_cons_succ])
              refine wpGrA_take (i := 8) (.slice (some ⟨g, 0, none⟩) n cc) rfl (by kernel_rfl) (by kernel_rfl) (fun _ _ _ h => h) (yieldsG_val _ rfl (fun w' hb => by have hc := (hb.cell (p := ⟨w10.heap.size, i, none⟩) GA.out).trans CA.out; go_simp)) ?_
              (try simp only [Act.put, List.getElem_toArray, List.getElem_cons_succ, List.getElem_cons_zero, List.setIfInBounds_toArray, List.set_cons_zero, List.set_cons_succ])
              refine wpGrA_take (i := 9) (.int .i64 (j : Int)) rfl (by kernel_rfl) (by kernel_rfl) (fun _ _ _ h => h) (yieldsG_val _ rfl (fun w' hb => by go_simp)) ?_
              (try simp only [Act.put, List.getElem_toArray, List.getElem_cons_succ, List.getElem_cons_zero, List.setIfInBounds_toArray, List.set_cons_zero, List.set_cons_succ])
              refine wpGrA_take (i := 10) (.pointer (some ⟨g, j, none⟩)) rfl (by kernel_rfl) (by kernel_rfl) (fun _ _ _ h => h) (yieldsG_val _ rfl (fun w' hb => by have h7 := HJN.out; have h8 := HJN2.out; go_simp)) ?_
              (try simp only [Act.put, List.getElem_toArray, List.getElem_cons_succ, List.getElem_cons_zero, List.setIfInBounds_toArray, List.set_cons_zero, List.set_cons_succ])
              refine wpGrA_take (i := 11) (.int .u8 (m : Int)) rfl (by kernel_rfl) (by kernel_rfl) (fun _ _ _ h => h) (yieldsG_val _ rfl (fun w' hb => by have hc := (hb.cell (p := ⟨g, j, none⟩) GG.out).trans CB.out; go_simp)) ?_
              (try simp only [Act.put, List.getElem_toArray, List.getElem_cons_succ, List.getElem_cons_zero, List.setIfInBounds_toArray, List.set_cons_zero, List.set_cons_succ])
              refine wpGrA_take (i := 12) (.int .u8 ((m ^^^ 255 : Nat) : Int)) rfl (by kernel_rfl) (by kernel_rfl) (fun _ _ _ h => h) (yieldsG_val _ rfl (fun w' hb => by have hq := HXR.out; go_simp)) ?_
              (try simp only [Act.put, List.getElem_toArray, List.getElem_cons_succ, List.getElem_cons_zero, List.setIfInBounds_toArray, List.set_cons_zero, List.set_cons_succ])
              refine wpGrA_take (i := 13) (.pointer (some ⟨g, j, none⟩)) rfl (by kernel_rfl) (by kernel_rfl) (fun _ _ _ h => h) (yieldsG_val _ rfl (fun w' hb => by have h7 := HJN.out; have h8 := HJN2.out; go_simp)) ?_
              (try simp only [Act.put, List.getElem_toArray, List.getElem_cons_succ, List.getElem_cons_zero, List.setIfInBounds_toArray, List.set_cons_zero, List.set_cons_succ])
              refine wpGrA_end (by kernel_rfl) ?_
              intro w13 hb
              simp only [List.drop_succ_cons, List.drop_zero]
              have hgr := (hb.block g GG.out).trans HGR.out
              have hf := frozen_of_row _ _ j _ _ hgr
              have hcell := cell_of hgr j _ (by have h := CB.out; exact (cur_of HGR.out h))
              have HIN2 : Hid (InvC W0 W11 (w13.setCell ⟨g, j, none⟩ (.int .u8 ((m ^^^ 255 : Nat) : Int))) lo hi' sv q u.late.length) := hid ⟨(HINV.out.1.drew hb).set HG1.out HG2.out, (HINV.out.2.1.trans (hb.mono HINV.out.2.1.size)).setCell (Nat.le_trans HW0.out HG1.out) _,
                fun s hs => ((HINV.out.2.2.1 s hs).blocks (fun p hp => hb.block p (by have := HINV.out.1.1; have := HHI.out; have := HS11.out; omega))).set hgr (fun _ => ⟨_, HMX.out, rfl⟩), ((HINV.out.2.2.2).blocks (fun p hp => hb.block p (by have := HINV.out.1.1; have := HHI.out; have := HS11.out; omega))).set hgr (fun _ => trivial)⟩
              clear hb hgr HINV
              go_wp2
              go_roundg (n - (j + 1))
              case measure => have := HJ.out; have := HJR.out; clear hwj hwi; omega
              case rel => exact ⟨j + 1, by have := HJ.out; have := HJR.out; clear hwj hwi; omega, by first | rw [hwj] | rfl, HIN2.out⟩
            · have hjn : ¬ (j : Int) < (n : Int) := by omega
              clear hj hjr hinv
              go_wp2
              go_roundg (7 - (i + 1))
              case measure => have := HI7.out; have := HIR.out; clear hwi; omega
              case rel => exact ⟨i + 1, by have := HI7.out; have := HIR.out; clear hwi; omega, by first | rw [hwi] | rfl, HINV.out⟩
        · have h7i : ¬ (i : Int) < 7 := by omega
          have HINV := hid hinv
          clear hinv hir h7
          go_wp2
          have HM := hid (show u.late.length ≤ 60 ∨ True from .inr trivial)
          have HML : Hid (u.late.length ≤ 1000000) := hid (by have := HP20.out.2.2; omega)
          obtain ⟨m, hm⟩ : ∃ t, t = u.late.length := ⟨_, rfl⟩
          rw [← hm] at HINV HML
          have HMM := hid hm
          clear hm
          go_loopg [10] m (fun r k' wr => ∃ j : Nat, j + r = m ∧ k' = .int .i64 (j : Int) ∧ InvC W0 W11 wr lo hi' sv q m)
          case atStart => exact ⟨0, by omega, rfl, HINV.out⟩
          case round =>
            clear HINV
            obtain ⟨j, hjr, rfl, hinv⟩ := hrel
            have HINV := hid hinv; have HJR := hid hjr
            have KC5 : wr.heap[w6.heap.size]? = some (.cells (ndV k x b u q) NdT (0, 0)) := (hinv.1.2 _ (block_lt K511.out) (.inr (by have := HHI5.out; omega))).trans K511.out
            have c9 : wr.cell? ⟨w6.heap.size, 9, none⟩ = some (.slice q.a2 m q.c2) := by rw [HMM.out]; exact cell_of KC5 9 _ rfl
            by_cases hj : j < m
            · obtain h0 | ⟨g, cur, hA, hg1, hg2, hg3, hg4⟩ := hinv.2.2.2
              · omega
              rw [hA] at c9
              obtain ⟨uu, huu, -⟩ := hg4 j hj
              have hcell := cell_of hg3 j _ huu
              have hf := frozen_of_row _ _ j _ _ hg3
              have hjn : (j : Int) < (m : Int) := by omega
              have hj0 : (0 : Int) ≤ (j : Int) := by omega
              have hwj : wrap64 ((j : Int) + 1) = ((j + 1 : Nat) : Int) := wrap_step' j 1 (by have := HML.out; omega)
              have HIN2 : Hid (InvC W0 W11 (wr.setCell ⟨g, j, none⟩ (.int .i64 (-5))) lo hi' sv q m) := hid ⟨HINV.out.1.set hg1 hg2, HINV.out.2.1.setCell (Nat.le_trans HW0.out hg1) _,
                fun s hs => (HINV.out.2.2.1 s hs).set hg3 (fun e => absurd e (by decide)), (HINV.out.2.2.2).set hg3 (fun _ => trivial)⟩
              have HJ := hid hj
              clear hinv hjr HINV KC5 hA hg1 hg2 hg3 hg4 huu hj
              go_wp2
              go_roundg (m - (j + 1))
              case measure => have := HJ.out; have := HJR.out; clear hwj; omega
              case rel => exact ⟨j + 1, by have := HJ.out; have := HJR.out; clear hwj; omega, by first | rw [hwj] | rfl, HIN2.out⟩
            · have hjn : ¬ (j : Int) < (m : Int) := by omega
              have KW0 := hid ((HINV.out.2.1.block _ (block_lt K0.out)).trans K0.out)
              have KW6 : Hid (wr.heap[w8.heap.size]? = some (.cells (ndV k x b2 u q2) NdT (0, 0))) := hid ((hinv.1.2 _ (block_lt K611.out) (.inr (by have := HHI5.out; have := H78.out; have := HS7.out; omega))).trans K611.out)
              have hfar : ∀ p : Addr, w7.heap.size ≤ p.block → p.block < w8.heap.size → wr.cell? p = w8.cell? p := fun p h1 h2 => (hinv.1.cell (p := p) (Nat.lt_of_lt_of_le h2 H811.out.size) (.inr (by have := HHI5.out; have := HS7.out; omega))).trans (H811.out.cell h2)
              have hsz : w8.heap.size ≤ wr.heap.size := Nat.le_trans H811.out.size hinv.1.1
              have HLc : Hid (LfIn wr x b2) := hid ⟨(own_lie HO1.out.1 hfar hsz).1, (own_lie HO1.out.2.1 hfar hsz).1, (own_lie HO1.out.2.2.1 hfar hsz).1, (own_lie HO1.out.2.2.2.1 hfar hsz).1, (own_lie HO1.out.2.2.2.2 hfar hsz).1⟩
              have HPc : Hid (PrIn wr u q2) := hid ⟨(own_lie HO2.out hfar hsz).1, (own_lie HO3.out hfar hsz).1, (own_lie HO4.out hfar hsz).1⟩
              clear hinv hjr KC5 hj hfar hsz
              go_wp2_with (first | (with_reducible refine wpList_load_row rfl NdT (.tmp 2) rfl w.heap.size rfl NdT (ndV k x a u p) (0, 0) _ KW0.out Try.underlying29 rfl infoNd16 ?_) | (with_reducible refine wpList_load_row rfl NdT (.tmp 6) rfl w8.heap.size rfl NdT (ndV k x b2 u q2) (0, 0) _ KW6.out Try.underlying29 rfl infoNd16 ?_))
              refine (HSN.out _ _ _ _ _ (HX.out.on HINV.out.2.1) (HU.out.on HINV.out.2.1) HLc.out HPc.out).mono ?_
              rintro e w20 ⟨rfl, hb⟩
              have HB20 := hid (HINV.out.2.1.trans (hb.mono HINV.out.2.1.size))
              clear hb
              go_wp2
              go_ret
              exact ⟨rfl, HB0.out.trans (HB20.out.mono HB0.out.size)⟩
end Go.Proofs.Ytlgcdddgahjknaa
end
section
namespace Go.Proofs.Ytlgcdddgahjknaa
open Go Go.RowKit
set_option linter.unusedVariables false
set_option linter.unusedSimpArgs false
theorem nodeBytes_law (k0 : Nat) (x0 : Lf) (a0 : LA) (u0 : Pnt) (p0 : PA) (w : World) (hx0 : LfIn w x0 a0) (hu0 : PrIn w u0 p0) (hs0 : x0.src < 256) (hk0 : k0 < 256) (hl0 : Late64 u0) :
    Calls Try.prog 3 #[.agg (ndV k0 x0 a0 u0 p0)] w fun e w' => e = .returned (.bool true) ∧ Below w.heap.size w w' :=
  nodeBytes_any node_bytes node_leafbytes (alive16_any node_bytes node_of) k0 x0 a0 u0 p0 w hx0 hu0 hs0 hk0 hl0
theorem nodeTakes_law (A0 : Option Addr) (b0 : List UInt8) (c0 : Nat) (w : World) (hq0 : Sq w w.heap.size A0 c0 (bvs b0)) :
    Calls Try.prog 4 #[.slice A0 b0.length c0] w fun e w' => e = .returned (.bool true) ∧ Below w.heap.size w w' :=
  nodeTakes_any node_of node_takeleaf (alive16_any node_bytes node_of) A0 b0 c0 w hq0
theorem nodeRows_law (A0 : Option Addr) (b0 : List UInt8) (c0 : Nat) (w : World) (hq0 : Sq w w.heap.size A0 c0 (bvs b0)) :
    Calls Try.prog 5 #[.slice A0 b0.length c0] w fun e w' => e = .returned (.bool true) ∧ Below w.heap.size w w' :=
  nodeRows_any node_take node_takenil (alive16_any node_bytes node_of) A0 b0 c0 w hq0
theorem nodeBack_law (k0 : Nat) (x0 : Lf) (a0 : LA) (u0 : Pnt) (p0 : PA) (A1 : Option Addr) (b1 : List UInt8) (c1 : Nat) (w : World) (hx0 : LfIn w x0 a0) (hu0 : PrIn w u0 p0) (hs0 : x0.src < 256) (hk0 : k0 < 256) (hl0 : Late64 u0) (hq1 : Sq w w.heap.size A1 c1 (bvs b1)) :
    Calls Try.prog 6 #[.agg (ndV k0 x0 a0 u0 p0), .slice A1 b1.length c1] w fun e w' => e = .returned (.bool true) ∧ Below w.heap.size w w' :=
  nodeBack_any node_bytes node_of node_same (alive16_any node_bytes node_of) k0 x0 a0 u0 p0 A1 b1 c1 w hx0 hu0 hs0 hk0 hl0 hq1
theorem nodeCopies_law (k0 : Nat) (x0 : Lf) (a0 : LA) (u0 : Pnt) (p0 : PA) (k1 : Nat) (x1 : Lf) (a1 : LA) (u1 : Pnt) (p1 : PA) (w : World) (hx0 : LfIn w x0 a0) (hu0 : PrIn w u0 p0) (hs0 : x0.src < 256) (hk0 : k0 < 256) (hl0 : Late64 u0) (hx1 : LfIn w x1 a1) (hu1 : PrIn w u1 p1) (hs1 : x1.src < 256) (hk1 : k1 < 256) (hl1 : Late64 u1) :
    Calls Try.prog 7 #[.agg (ndV k0 x0 a0 u0 p0), .agg (ndV k1 x1 a1 u1 p1)] w fun e w' => e = .returned (.bool true) ∧ Below w.heap.size w w' :=
  nodeCopies_any node_copy node_same (alive16_any node_bytes node_of) k0 x0 a0 u0 p0 k1 x1 a1 u1 p1 w hx0 hu0 hs0 hk0 hl0 hx1 hu1 hs1 hk1 hl1
end Go.Proofs.Ytlgcdddgahjknaa
end
