/-
  Texts of this claim in one file: NcF.
-/
import Derived.Test.YthooibljnfnnhaaPk13
section
namespace Go.Proofs.Ythooibljnfnnhaa
open Go Go.RowKit
set_option linter.unusedVariables false
set_option linter.unusedSimpArgs false
theorem lateBy_take (l : List Int) (k : Nat) (h : k < l.length) : lateBy (l.take (k + 1)) = lateBy (l.take k) ++ beBytes 4 l[k].toNat := by
  unfold lateBy
  rw [List.take_succ_eq_append_getElem h, List.flatMap_append]
  simp
theorem u64_int (v : Int) (h0 : 0 ≤ v) (h1 : v ≤ 65535) : IntKind.u64.wrap v = (v.toNat : Int) := by show v % 18446744073709551616 = _; omega
set_option maxHeartbeats 2000000 in
theorem putParent_gen (A0 A1 A2 : Option Addr) (xs ys : List UInt8) (c0 c1 c2 : Nat) (late : List Int) (w : World) (hx : Lie w w.heap.size A0 (bvs xs)) (hy : Lie w w.heap.size A1 (bvs ys)) (hz : Lie w w.heap.size A2 (izs late)) (hl0 : xs.length ≤ 1000) (hl1 : ys.length ≤ 1000) (hr : ∀ v ∈ late, 0 ≤ v ∧ v ≤ 65535) (hn : late.length ≤ 65536) :
    Calls Try.prog 89 #[.agg #[.slice A0 xs.length c0, .slice A1 ys.length c1, .slice A2 late.length c2]] w (RetQ w ((vecBytes xs ++ vecBytes ys) ++ vecBytes (lateBy late))) := by
  have K1 := hid (heap_alloc_new w (.cells #[.slice A0 xs.length c0, .slice A1 ys.length c1, .slice A2 late.length c2] PrT))
  have HW0 : Hid (Below w.heap.size w (w.alloc (.cells #[.slice A0 xs.length c0, .slice A1 ys.length c1, .slice A2 late.length c2] PrT))) := hid ((Below.refl _ _).alloc (Nat.le_refl _) _)
  have HX := hid (lie_on hx HW0.out); have HY := hid (lie_on hy HW0.out); have HZ := hid (lie_on hz HW0.out)
  obtain ⟨W, hW⟩ : ∃ W, W = w.alloc (.cells #[.slice A0 xs.length c0, .slice A1 ys.length c1, .slice A2 late.length c2] PrT) := ⟨_, rfl⟩
  have HE := hid hW.symm
  rw [← hW] at K1 HW0 HX HY HZ
  have HV1 : Hid (∀ V, Below W.heap.size W V → Calls Try.prog 87 #[.slice none 0 0, .slice A0 xs.length c0] V (RetQ V (vecBytes xs))) := hid fun V h => PutVecN _ _ _ V (by omega) (lie_to HX.out h)
  have HV2 : Hid (∀ V A b c, Below W.heap.size W V → b.length ≤ 1000000 → Lie V V.heap.size A (bvs b) → Calls Try.prog 87 #[.slice A b.length c, .slice A1 ys.length c1] V (RetQ V (b ++ vecBytes ys))) := hid fun V A b c h hb hq => PutVecQ _ _ _ _ _ _ V (by omega) (by omega) hq (lie_to HY.out h)
  have v1 := vec_le (xs := xs) (by omega); have v2 := vec_le (xs := ys) (by omega)
  have hlen := lateBy_length late
  have HR := hid hr; have HN := hid hn
  have HC : Hid (∀ w', Below W.heap.size W w' → (w'.cell? ⟨w.heap.size, 0, none⟩ = some (.slice A0 xs.length c0) ∧ w'.cell? ⟨w.heap.size, 1, none⟩ = some (.slice A1 ys.length c1) ∧ w'.cell? ⟨w.heap.size, 2, none⟩ = some (.slice A2 late.length c2))) := hid fun w' h => by
    have K3 := (h.block _ (block_lt K1.out)).trans K1.out
    exact ⟨cell_of K3 0 _ rfl, cell_of K3 1 _ rfl, cell_of K3 2 _ rfl⟩
  obtain ⟨b1, h1⟩ : ∃ t, t = vecBytes xs := ⟨_, rfl⟩
  obtain ⟨b2, h2⟩ : ∃ t, t = vecBytes ys := ⟨_, rfl⟩
  rw [← h1] at HV1 v1
  rw [← h2] at HV2 v2
  rw [← h1, ← h2]
  obtain ⟨RR, hRR⟩ : ∃ t, t = (b1 ++ b2) ++ vecBytes (lateBy late) := ⟨_, rfl⟩
  rw [← hRR]
  have HRR := hid hRR
  clear hRR
  have HBN : Hid (b1.length ≤ 100004 ∧ b2.length ≤ 100004) := hid ⟨v1, v2⟩
  have HLB := hid hlen
  obtain ⟨i0, hi, hz0, hz1, hz2⟩ := info_parts infoU8
  have x2 : (w.alloc (.cells #[.slice A0 xs.length c0, .slice A1 ys.length c1, .slice A2 late.length c2] PrT)).cell? ⟨w.heap.size, 2, none⟩ = some (.slice A2 late.length c2) := cell_of (heap_alloc_new w (.cells #[.slice A0 xs.length c0, .slice A1 ys.length c1, .slice A2 late.length c2] PrT)) 2 _ rfl
  obtain ⟨N, hN⟩ : ∃ N, N = late.length := ⟨_, rfl⟩
  rw [← hN] at x2 HE HC HLB HN ⊢
  have hw4 : wrap64 (4 * (N : Int)) = ((4 * N : Nat) : Int) := by unfold wrap64; have := HN.out; omega
  have HNN := hid hN
  clear hx hy hz hl0 hl1 hr hn hW HX HY h1 h2 v1 v2 hlen hN
  go_enter Try.func89, Try.ntmps89
  go_wp2_with (at_make; refine wpList_make_own _ rfl _ _ 25 rfl W.heap.size 5 i0 (.int .u8 0) 1 Try.underlying25 hi hz0 hz1 _ _ _ (4 * N) rfl rfl ?c1 ?c2 ?c3 ?c4 ?_)
  case c1 => simp; unfold wrap64; have := HN.out; omega
  case c2 => have := HN.out; first | omega | (rw [hz2]; omega) | (simp [hz2]; omega)
  case c3 => have := HN.out; unfold maxLen; omega
  case c4 => first | omega | (rw [← HE.out]; exact Nat.le_refl _) | (simp; done)
  rw [HE.out]
  intro w1 hown hg
  have hB1 : Below W.heap.size W w1 := (Below.refl _ _).grown hg (Nat.le_refl _) (fun _ h => by cases h)
  have HO := hid hown; have HB := hid hB1
  clear hown hg hB1 hi hz0 hz1 hz2 x2 hw4 HE
  have x2 := (HC.out w1 HB.out).2.2
  go_wp2
  clear x2
  go_loopg [3, 14] N (fun r v i wr => ∃ k : Nat, k + r = N ∧ i = .int .i64 (k : Int) ∧ OwnB wr W.heap.size v (lateBy (late.take k)) ∧ Below W.heap.size W wr)
  case atStart => exact ⟨0, by omega, rfl, by simpa [OwnB, lateBy, bvs] using HO.out, HB.out⟩
  case round =>
    clear HO HB
    obtain ⟨k, hk, rfl, ho, hb⟩ := hrel
    have HK := hid hk; have HO := hid ho; have HB := hid hb
    have HLK : Hid ((lateBy (late.take k)).length = 4 * k) := hid (by rw [lateBy_length, List.length_take, ← HNN.out]; omega)
    clear hk ho hb
    by_cases hlt : k < N
    · have hlt2 : k < late.length := by rw [← HNN.out]; exact hlt
      have hkx : (k : Int) < (N : Int) := by omega
      have hk0 : (0 : Int) ≤ (k : Int) := by omega
      obtain ⟨b, o, rfl, -, hc⟩ := (HZ.out.below HB.out).numZ hlt2
      have hst := lateBy_take late k hlt2
      have hvr := HR.out _ (List.getElem_mem hlt2)
      obtain ⟨v, hv⟩ : ∃ v, v = late[k] := ⟨_, rfl⟩
      rw [← hv] at hc hst hvr
      have hcv := u64_int v hvr.1 hvr.2
      obtain ⟨m, hm⟩ : ∃ m, m = v.toNat := ⟨_, rfl⟩
      rw [← hm] at hcv hst
      have hm2 : m ≤ 65535 := by omega
      have HQ : Hid (∀ V, Calls Try.prog 86 #[.slice none 0 0, .int .i64 4, .int .u64 (m : Int)] V fun e w' => ∃ v, e = .returned v ∧ OwnB w' V.heap.size v (beBytes 4 m) ∧ Below V.heap.size V w') := hid fun V => PutNumN 4 m V (.inr (.inr (.inl rfl))) (by omega)
      have HST := hid hst
      obtain ⟨ps, hps⟩ : ∃ t, t = lateBy (late.take k) := ⟨_, rfl⟩
      rw [← hps] at HO HLK HST
      have HB4 : Hid ((beBytes 4 m).length = 4) := hid (beBytes_length _ _)
      obtain ⟨qs, hqs⟩ : ∃ t, t = beBytes 4 m := ⟨_, rfl⟩
      rw [← hqs] at HQ HST HB4
      have hwk : wrap64 ((k : Int) + 1) = (k : Int) + 1 := wrap64_in' (by omega) (by have := HN.out; omega)
      clear hst hvr hv hm hps hqs hm2 hlt2
      go_wp2_with fail
      refine (HQ.out _).mono ?_
      rintro ee w2 ⟨v2, rfl, ho2, hb2⟩
      obtain ⟨A4, d4, rfl, hs4⟩ := own_sl ho2
      have HO2 := hid (own_on HO.out hb2); have HB2 := hid (HB.out.trans (hb2.mono HB.out.size)); have HL4 := hid hs4.lie
      rw [HB4.out]
      clear ho2 hb2 hs4 HO HB hc hcv HQ
      go_wp2_with (at_builtin; refine wpList_append_lie rfl _ _ 25 rfl W.heap.size 5 (.int .u8 0) 1 Try.underlying25 infoU8 rfl rfl HO2.out ((bvs_length _).trans HB4.out) rfl HL4.out (bvs_one _) ?d1 ?d2 ?d3 ?_)
      case d1 => rw [HLK.out]; have := HN.out; unfold maxLen; omega
      case d2 => rw [HLK.out]; have := HN.out; omega
      case d3 => exact HB2.out.size
      intro v5 w5 hown5 hg5 _
      have HO5 : Hid (OwnB w5 W.heap.size v5 (ps ++ qs)) := hid (by unfold OwnB; rw [List.length_append, HB4.out, bvs_append]; exact hown5)
      have HB5 : Hid (Below W.heap.size W w5) := hid (HB2.out.grown hg5 HB2.out.size (own_lt HO2.out))
      clear hown5 hg5 HO2 HB2 HL4
      go_wp2
      have hk := HK.out
      go_roundg (N - (k + 1))
      case measure => clear hwk; omega
      case rel => exact ⟨k + 1, by clear hwk; omega, by first | rfl | (rw [hwk]; rfl), by rw [HST.out]; exact HO5.out, HB5.out⟩
    · obtain rfl : k = N := by have := HK.out; omega
      rw [List.take_of_length_le (by rw [← HNN.out]; exact Nat.le_refl _)] at HO HLK
      obtain ⟨b3, h3⟩ : ∃ t, t = lateBy late := ⟨_, rfl⟩
      rw [← h3] at HO HLK HLB HRR
      obtain ⟨A3, d3, rfl, hs3⟩ := own_sl HO.out
      have HL3 := hid hs3.lie
      have HBW : Hid (Below W.heap.size W wr) := HB
      have HV3 : Hid (∀ V A b c, Below wr.heap.size wr V → b.length ≤ 1000000 → Lie V V.heap.size A (bvs b) → Calls Try.prog 87 #[.slice A b.length c, .slice A3 b3.length d3] V (RetQ V (b ++ vecBytes b3))) := hid fun V A b c h hb hq => PutVecQ _ _ _ _ _ _ V (by rw [HLB.out]; have := HN.out; omega) (by omega) hq (lie_to HL3.out h)
      have hge : ¬ (k : Int) < (k : Int) := by omega
      have HCW : Hid (∀ w', Below wr.heap.size wr w' → (w'.cell? ⟨w.heap.size, 0, none⟩ = some (.slice A0 xs.length c0) ∧ w'.cell? ⟨w.heap.size, 1, none⟩ = some (.slice A1 ys.length c1))) := hid fun w' h => ⟨(HC.out w' (HBW.out.trans (h.mono HBW.out.size))).1, (HC.out w' (HBW.out.trans (h.mono HBW.out.size))).2.1⟩
      have HVW1 : Hid (∀ V, Below wr.heap.size wr V → Calls Try.prog 87 #[.slice none 0 0, .slice A0 xs.length c0] V (RetQ V b1)) := hid fun V h => HV1.out V (HBW.out.trans (h.mono HBW.out.size))
      have HVW2 : Hid (∀ V A b c, Below wr.heap.size wr V → b.length ≤ 1000000 → Lie V V.heap.size A (bvs b) → Calls Try.prog 87 #[.slice A b.length c, .slice A1 ys.length c1] V (RetQ V (b ++ b2))) := hid fun V A b c h => HV2.out V A b c (HBW.out.trans (h.mono HBW.out.size))
      clear h3 hs3 hlt HO HB HC HV1 HV2 HLK
      obtain ⟨vv, hvv⟩ : ∃ t, t = vecBytes b3 := ⟨_, rfl⟩
      rw [← hvv] at HV3 HRR
      clear hvv
      have HB : Hid (Below wr.heap.size wr wr) := hid (Below.refl _ _)
      go_upto_region 7 with fail
      refine wp_region_grA 8 (by kernel_rfl) (by decide) ?_
      refine wpGrA_take (i := 6) (.slice A3 b3.length d3) rfl (by kernel_rfl) (by kernel_rfl) (fun _ _ _ h => h) (yG_val _ (by rfl) (fun w' hb => by (go_simp; try rfl))) ?_
      (try simp only [Act.put, List.getElem_toArray, List.getElem_cons_succ, List.getElem_cons_zero, List.setIfInBounds_toArray, List.set_cons_zero, List.set_cons_succ])
      refine wpGrA_take (i := 0) (.pointer (some ⟨w.heap.size, 0, none⟩)) rfl (by kernel_rfl) (by kernel_rfl) (fun _ _ _ h => h) (yG_val _ (by rfl) (fun w' hb => by (go_simp; try rfl))) ?_
      (try simp only [Act.put, List.getElem_toArray, List.getElem_cons_succ, List.getElem_cons_zero, List.setIfInBounds_toArray, List.set_cons_zero, List.set_cons_succ])
      refine wpGrA_take (i := 1) (.slice A0 xs.length c0) rfl (by kernel_rfl) (by kernel_rfl) (fun _ _ _ h => h) (yG_val _ (by rfl) (fun w' hb => by have c := (HCW.out w' hb).1; (go_simp; try rfl))) ?_
      (try simp only [Act.put, List.getElem_toArray, List.getElem_cons_succ, List.getElem_cons_zero, List.setIfInBounds_toArray, List.set_cons_zero, List.set_cons_succ])
      refine wpGrA_take (i := 3) (.pointer (some ⟨w.heap.size, 1, none⟩)) rfl (by kernel_rfl) (by kernel_rfl) (fun _ _ _ h => h) (yG_val _ (by rfl) (fun w' hb => by (go_simp; try rfl))) ?_
      (try simp only [Act.put, List.getElem_toArray, List.getElem_cons_succ, List.getElem_cons_zero, List.setIfInBounds_toArray, List.set_cons_zero, List.set_cons_succ])
      refine wpGrA_take (i := 4) (.slice A1 ys.length c1) rfl (by kernel_rfl) (by kernel_rfl) (fun _ _ _ h => h) (yG_val _ (by rfl) (fun w' hb => by have c := (HCW.out w' hb).2; (go_simp; try rfl))) ?_
      (try simp only [Act.put, List.getElem_toArray, List.getElem_cons_succ, List.getElem_cons_zero, List.setIfInBounds_toArray, List.set_cons_zero, List.set_cons_succ])
      refine wpGrA_q (i := 2) (b1) rfl (by kernel_rfl) (by rfl) (fun w' => by go_simp) (fun w' hb => HVW1.out w' (HB.out.trans (hb.mono HB.out.size))) ?_
      intro B1 d1 v1 hb hq
      have HBn := hid (HB.out.trans (hb.mono HB.out.size))
      clear HB 
      have HB := HBn
      clear HBn 
      have Q1 := hid hq
      clear hb hq
      (try simp only [Act.put, List.getElem_toArray, List.getElem_cons_succ, List.getElem_cons_zero, List.setIfInBounds_toArray, List.set_cons_zero, List.set_cons_succ])
      refine wpGrA_q (i := 5) (b1 ++ b2) rfl (by kernel_rfl) (by rfl) (fun w' => by go_simp) (fun w' hb => HVW2.out w' B1 b1 d1 (HB.out.trans (hb.mono HB.out.size)) (by have := HBN.out; (try simp only [List.length_append]); omega) (((Q1.out.below hb).more hb.size).lie)) ?_
      intro B2 d2 v2 hb hq
      have Q1n := hid ((Q1.out.below hb).more hb.size)
      have HBn := hid (HB.out.trans (hb.mono HB.out.size))
      clear HB Q1
      have HB := HBn
      have Q1 := Q1n
      clear HBn Q1n
      have Q2 := hid hq
      clear hb hq
      (try simp only [Act.put, List.getElem_toArray, List.getElem_cons_succ, List.getElem_cons_zero, List.setIfInBounds_toArray, List.set_cons_zero, List.set_cons_succ])
      refine wpGrA_q (i := 7) ((b1 ++ b2) ++ vv) rfl (by kernel_rfl) (by rfl) (fun w' => by go_simp) (fun w' hb => HV3.out w' B2 (b1 ++ b2) d2 (HB.out.trans (hb.mono HB.out.size)) (by have := HBN.out; (try simp only [List.length_append]); omega) (((Q2.out.below hb).more hb.size).lie)) ?_
      intro B3 e3 v3 hb hq
      have Q1n := hid ((Q1.out.below hb).more hb.size)
      have Q2n := hid ((Q2.out.below hb).more hb.size)
      have HBn := hid (HB.out.trans (hb.mono HB.out.size))
      clear HB Q1 Q2
      have HB := HBn
      have Q1 := Q1n
      have Q2 := Q2n
      clear HBn Q1n Q2n
      have Q3 := hid hq
      clear hb hq
      (try simp only [Act.put, List.getElem_toArray, List.getElem_cons_succ, List.getElem_cons_zero, List.setIfInBounds_toArray, List.set_cons_zero, List.set_cons_succ])
      refine wpGrA_end (by kernel_rfl) ?_
      intro wz hb
      have Q1n := hid ((Q1.out.below hb).more hb.size)
      have Q2n := hid ((Q2.out.below hb).more hb.size)
      have Q3n := hid ((Q3.out.below hb).more hb.size)
      have HBn := hid (HB.out.trans (hb.mono HB.out.size))
      clear HB Q1 Q2 Q3
      have HB := HBn
      have Q1 := Q1n
      have Q2 := Q2n
      have Q3 := Q3n
      clear HBn Q1n Q2n Q3n
      clear hb
      simp only [List.drop_succ_cons, List.drop_zero]
      rw [← HRR.out] at Q3 ⊢
      go_wp2
      go_ret
      exact ⟨B3, e3, rfl, Q3.out, HW0.out.trans ((HBW.out.trans (HB.out.mono HBW.out.size)).mono HW0.out.size)⟩
theorem putParent_e (u : Pnt) (p : PA) (w : World) (hu : PrIn w u p) (hr : parB u = true) : Calls Try.prog 89 #[.agg (prV u p)] w (RetQ w ((vecBytes u.box ++ vecBytes u.hash) ++ vecBytes (lateBy u.late))) := by
  obtain ⟨h1, h2, h3⟩ := parB_len hr
  exact putParent_gen _ _ _ _ _ _ _ _ u.late w hu.1 hu.2.1 hu.2.2 (by omega) (by omega) (rise_in h1) (rise_count h1)
theorem leafB_200 {x : Lf} (h : leafB x = true) : Lf200 x := by
  obtain ⟨h1, h2, h3, h4, h5, h6⟩ := leafB_len h
  exact ⟨by omega, by omega, by omega, by omega, by omega, by omega⟩
set_option maxHeartbeats 2000000 in
theorem node_leafbytes : NdLeafBytes := fun x a w hx hl => by
  have K1 := hid (heap_alloc_new w (.cells (lfV x a) LfT))
  have HB0 : Hid (Below w.heap.size w (w.alloc (.cells (lfV x a) LfT))) := hid ((Below.refl _ _).alloc (Nat.le_refl _) _)
  have HX := hid (hx.on HB0.out)
  have HIL : Hid (∀ V, Calls Try.prog 96 #[.agg (lfV x a)] V (RetB V (leafB x))) := hid fun V => isLeaf_e x a V hl.2.2.2.2.2
  have hR : BysE w (lbX x) (lbE x) = BysE w (if leafB x = true then aheadB x ++ vecBytes x.sig else []) (if leafB x = true then 0 else 3) := rfl
  rw [hR]
  clear hR
  have HPU : Hid (∀ V : World, LfIn V x a → Calls Try.prog 88 #[.agg (lfV x a)] V (RetQ V (aheadB x))) := hid fun V h => putUnsigned_e x a V h hl
  have HPV : Hid (∀ V A b c, LfIn V x a → b.length ≤ 1000000 → Lie V V.heap.size A (bvs b) → Calls Try.prog 87 #[.slice A b.length c, .slice a.a4 x.sig.length a.c4] V (RetQ V (b ++ vecBytes x.sig))) := hid fun V A b c h hb hq => PutVecQ _ _ _ _ _ _ V (by have := hl.2.2.2.2.1; omega) (by omega) hq h.2.2.2.2
  have HAL : Hid ((aheadB x).length ≤ 1000000) := hid (by
    have v1 := vec_le (xs := x.box) (by have := hl.1; omega); have v2 := vec_le (xs := x.sign) (by have := hl.2.1; omega); have v3 := vec_le (xs := x.ident) (by have := hl.2.2.1; omega); have v4 := vec_le (xs := x.par) (by have := hl.2.2.2.1; omega)
    unfold aheadB
    split <;> simp only [List.length_append, List.length_cons, List.length_nil] <;> omega)
  obtain ⟨q, hq⟩ : ∃ t, t = leafB x := ⟨_, rfl⟩
  rw [← hq] at HIL ⊢
  obtain ⟨ab, ha⟩ : ∃ t, t = aheadB x := ⟨_, rfl⟩
  rw [← ha] at HPU HAL ⊢
  obtain ⟨vs, hv⟩ : ∃ t, t = vecBytes x.sig := ⟨_, rfl⟩
  rw [← hv] at HPV ⊢
  obtain ⟨ZZ, hZZ⟩ : ∃ t, t = (if q = true then ab ++ vs else []) := ⟨_, rfl⟩
  obtain ⟨er, her⟩ : ∃ t, t = (if q = true then 0 else 3) := ⟨_, rfl⟩
  rw [← hZZ, ← her]
  have HZZ := hid hZZ; have HER := hid her
  clear hx hl hq ha hv hZZ her
  have x0 := cell_of K1.out 0 _ rfl; have x1 := cell_of K1.out 1 _ rfl; have x2 := cell_of K1.out 2 _ rfl; have x3 := cell_of K1.out 3 _ rfl; have x4 := cell_of K1.out 4 _ rfl; have x5 := cell_of K1.out 5 _ rfl
  go_enter Try.func74, Try.ntmps74
  go_wp2_with fail
  refine (HIL.out _).mono ?_
  rintro ee W ⟨rfl, hb⟩
  have HW0 := hid (HB0.out.trans (hb.mono HB0.out.size)); have HX2 := hid (HX.out.on hb); have K2 := hid ((hb.block _ (block_lt K1.out)).trans K1.out)
  clear hb HB0 HX K1 HIL x0 x1 x2 x3 x4 x5
  cases q with
  | false =>
    obtain rfl : ZZ = [] := HZZ.out
    obtain rfl : er = 3 := HER.out
    go_wp2
    go_ret2
    exact ⟨none, 0, rfl, Sl.nil.sq, HW0.out⟩
  | true =>
    obtain rfl : er = 0 := HER.out
    have HRR : Hid (ZZ = ab ++ vs) := hid HZZ.out
    clear HZZ HER
    have hcs : W.cell? ⟨w.heap.size, 5, none⟩ = some (.slice a.a4 x.sig.length a.c4) := cell_of K2.out 5 _ rfl
    have HCS : Hid (∀ w', Below W.heap.size W w' → w'.cell? ⟨w.heap.size, 5, none⟩ = some (.slice a.a4 x.sig.length a.c4)) := hid fun w' h => cell_of ((h.block _ (block_lt K2.out)).trans K2.out) 5 _ rfl
    have HXV : Hid (∀ V, Below W.heap.size W V → LfIn V x a) := hid fun V h => HX2.out.on h
    clear hcs HX2
    have HB : Hid (Below W.heap.size W W) := hid (Below.refl _ _)
    go_upto_region 3 with fail
    refine wp_region_grA 5 (by kernel_rfl) (by decide) ?_
    refine wpGrA_take (i := 0) (.agg (lfV x a)) rfl (by kernel_rfl) (by kernel_rfl) (fun _ _ _ h => h) (yG_part (by rfl) LfT (.tmp 1) rfl w.heap.size 0 rfl LfT (lfV x a) (lfV x a) (0, 0) _ K2.out rfl Try.underlying27 rfl infoLf) ?_
    (try simp only [Act.put, List.getElem_toArray, List.getElem_cons_succ, List.getElem_cons_zero, List.setIfInBounds_toArray, List.set_cons_zero, List.set_cons_succ])
    refine wpGrA_take (i := 2) (.pointer (some ⟨w.heap.size, 5, none⟩)) rfl (by kernel_rfl) (by kernel_rfl) (fun _ _ _ h => h) (yG_val _ (by rfl) (fun w' hb => by (go_simp; try rfl))) ?_
    (try simp only [Act.put, List.getElem_toArray, List.getElem_cons_succ, List.getElem_cons_zero, List.setIfInBounds_toArray, List.set_cons_zero, List.set_cons_succ])
    refine wpGrA_take (i := 3) (.slice a.a4 x.sig.length a.c4) rfl (by kernel_rfl) (by kernel_rfl) (fun _ _ _ h => h) (yG_val _ (by rfl) (fun w' hb => by have c := HCS.out w' hb; (go_simp; try rfl))) ?_
    (try simp only [Act.put, List.getElem_toArray, List.getElem_cons_succ, List.getElem_cons_zero, List.setIfInBounds_toArray, List.set_cons_zero, List.set_cons_succ])
    refine wpGrA_q (i := 1) (ab) rfl (by kernel_rfl) (by rfl) (fun w' => by go_simp) (fun w' hb => HPU.out w' (HXV.out w' (HB.out.trans (hb.mono HB.out.size)))) ?_
    intro B1 d1 v1 hb hq
    have HBn := hid (HB.out.trans (hb.mono HB.out.size))
    clear HB 
    have HB := HBn
    clear HBn 
    have Q1 := hid hq
    clear hb hq
    (try simp only [Act.put, List.getElem_toArray, List.getElem_cons_succ, List.getElem_cons_zero, List.setIfInBounds_toArray, List.set_cons_zero, List.set_cons_succ])
    refine wpGrA_q (i := 4) (ab ++ vs) rfl (by kernel_rfl) (by rfl) (fun w' => by go_simp) (fun w' hb => HPV.out w' B1 ab d1 (HXV.out w' (HB.out.trans (hb.mono HB.out.size))) HAL.out (((Q1.out.below hb).more hb.size).lie)) ?_
    intro B2 d2 v2 hb hq
    have Q1n := hid ((Q1.out.below hb).more hb.size)
    have HBn := hid (HB.out.trans (hb.mono HB.out.size))
    clear HB Q1
    have HB := HBn
    have Q1 := Q1n
    clear HBn Q1n
    have Q2 := hid hq
    clear hb hq
    (try simp only [Act.put, List.getElem_toArray, List.getElem_cons_succ, List.getElem_cons_zero, List.setIfInBounds_toArray, List.set_cons_zero, List.set_cons_succ])
    refine wpGrA_end (by kernel_rfl) ?_
    intro wz hb
    have Q1n := hid ((Q1.out.below hb).more hb.size)
    have Q2n := hid ((Q2.out.below hb).more hb.size)
    have HBn := hid (HB.out.trans (hb.mono HB.out.size))
    clear HB Q1 Q2
    have HB := HBn
    have Q1 := Q1n
    have Q2 := Q2n
    clear HBn Q1n Q2n
    clear hb
    simp only [List.drop_succ_cons, List.drop_zero]
    rw [← HRR.out] at Q2 ⊢
    go_wp2
    go_ret2
    exact ⟨B2, d2, rfl, Q2.out, HW0.out.trans (HB.out.mono HW0.out.size)⟩
set_option maxHeartbeats 4000000 in
theorem node_bytes : NdBytes := fun k x a u p w hok => by
  have hx := hok.1; have hu := hok.2.1; have hm := hok.2.2.2.1; have hk := hok.2.2.2.2.1
  have hs : x.src < 256 := hok.2.2.1.2.2.2.2.2
  have K1 := hid (heap_alloc_new w (.cells (ndV k x a u p) NdT))
  have HB0 : Hid (Below w.heap.size w (w.alloc (.cells (ndV k x a u p) NdT))) := hid ((Below.refl _ _).alloc (Nat.le_refl _) _)
  have HX := hid (hx.on HB0.out); have HU := hid (hu.on HB0.out)
  have HIN : Hid (∀ V : World, LfIn V x a → PrIn V u p → Calls Try.prog 85 #[.agg (ndV k x a u p)] V (RetB V (rightB k x u))) := hid fun V h1 h2 => isNode_e k x a u p V hk h1 h2 hs ⟨by have := hm.1; omega, by have := hm.2.1; omega, by have := hm.2.2; omega⟩
  have hR : BysE w (nbX k x u) (nbE k x u) = BysE w (if rightB k x u = true then nodeBy k x u else []) (if rightB k x u = true then 0 else 3) := rfl
  rw [hR]
  clear hR
  have HRI : Hid (rightB k x u = true → k = 0 ∨ (k = 1 ∧ leafB x = true) ∨ (k = 2 ∧ parB u = true)) := hid (by
    intro h
    unfold rightB at h
    split at h
    · exact .inl ‹_›
    · split at h
      · rw [Bool.and_eq_true] at h; exact .inr (.inl ⟨‹_›, h.1⟩)
      · split at h
        · rw [Bool.and_eq_true] at h; exact .inr (.inr ⟨‹_›, h.1⟩)
        · cases h)
  have HNB : Hid (nodeBy k x u = if k = 1 then [1] ++ (aheadB x ++ vecBytes x.sig) else if k = 2 then ([2] ++ vecBytes u.box) ++ (vecBytes u.hash ++ vecBytes (lateBy u.late)) else [0]) := hid rfl
  obtain ⟨RR, hRR⟩ : ∃ t, t = nodeBy k x u := ⟨_, rfl⟩
  rw [← hRR] at HNB ⊢
  obtain ⟨q, hq⟩ : ∃ t, t = rightB k x u := ⟨_, rfl⟩
  rw [← hq] at HIN HRI ⊢
  obtain ⟨ZZ, hZZ⟩ : ∃ t, t = (if q = true then RR else []) := ⟨_, rfl⟩
  obtain ⟨er, her⟩ : ∃ t, t = (if q = true then 0 else 3) := ⟨_, rfl⟩
  rw [← hZZ, ← her]
  have HZZ := hid hZZ; have HER := hid her
  clear hZZ her
  have HPN : Hid (∀ V, Calls Try.prog 86 #[.slice none 0 0, .int .i64 1, .int .u64 (k : Int)] V fun e w' => ∃ v, e = .returned v ∧ OwnB w' V.heap.size v (beBytes 1 k) ∧ Below V.heap.size V w') := hid fun V => PutNumN 1 k V (.inl rfl) (by omega)
  have HCV : Hid (IntKind.u64.wrap (k : Int) = (k : Int)) := hid (u64_nat k (by omega))
  have HSI := hid hm.1; have HSS := hid hs
  clear hx hu hm hk hs hq hRR hok
  have x0 := cell_of K1.out 0 _ rfl; have x1 := cell_of K1.out 1 _ rfl; have x2 := cell_of K1.out 2 _ rfl; have x3 := cell_of K1.out 3 _ rfl; have x4 := cell_of K1.out 4 _ rfl; have x5 := cell_of K1.out 5 _ rfl; have x6 := cell_of K1.out 6 _ rfl; have x7 := cell_of K1.out 7 _ rfl; have x8 := cell_of K1.out 8 _ rfl; have x9 := cell_of K1.out 9 _ rfl
  go_enter Try.func66, Try.ntmps66
  go_wp2_with fail
  refine (HIN.out _ HX.out HU.out).mono ?_
  rintro ee v1 ⟨rfl, hb⟩
  have HW1 := hid (HB0.out.trans (hb.mono HB0.out.size)); have HX1 := hid (HX.out.on hb); have HU1 := hid (HU.out.on hb); have K2 := hid ((hb.block _ (block_lt K1.out)).trans K1.out)
  clear hb HB0 HX HU K1 HIN x0 x1 x2 x3 x4 x5 x6 x7 x8 x9
  cases q with
  | false =>
    obtain rfl : ZZ = [] := HZZ.out
    obtain rfl : er = 3 := HER.out
    go_wp2
    go_ret2
    exact ⟨none, 0, rfl, Sl.nil.sq, HW1.out⟩
  | true =>
    obtain rfl : er = 0 := HER.out
    obtain rfl : ZZ = RR := HZZ.out
    clear HZZ HER
    have hri := HRI.out rfl
    have HRK := hid hri
    have x0 := cell_of K2.out 0 _ rfl
    have hcv := HCV.out
    clear HRI hri
    go_wp2_with fail
    refine (HPN.out _).mono ?_
    rintro ee W ⟨vb, rfl, ho, hb⟩
    have HW0 := hid (HW1.out.trans (hb.mono HW1.out.size)); have HX2 := hid (HX1.out.on hb); have HU2 := hid (HU1.out.on hb); have K3 := hid ((hb.block _ (block_lt K2.out)).trans K2.out)
    have HO := hid (own_le ho HW1.out.size)
    clear hb ho HW1 HX1 HU1 K2 x0 hcv HCV HPN
    rw [be1_src] at HO
    obtain ⟨AB, cb, rfl, hsb⟩ := own_sl HO.out
    have HSB : Hid (Sq W W.heap.size AB cb (bvs [UInt8.ofNat k])) := hid (by have h := hsb.sq; exact h)
    have x0 := cell_of K3.out 0 _ rfl
    clear hsb
    rcases HRK.out with rfl | ⟨rfl, hlf⟩ | ⟨rfl, hpr⟩
    · have hnb := HNB.out
      rw [if_neg (by decide), if_neg (by decide)] at hnb
      have HNB2 := hid hnb
      clear HRK HNB hnb
      go_wp2
      go_ret2
      exact ⟨AB, cb, by rw [HNB2.out]; rfl, by rw [HNB2.out]; exact HSB.out, HW0.out⟩
    · have hnb := HNB.out
      rw [if_pos rfl] at hnb
      have HNB2 := hid hnb
      have hl := leafB_200 hlf
      have HPU : Hid (∀ V : World, LfIn V x a → Calls Try.prog 88 #[.agg (lfV x a)] V (RetQ V (aheadB x))) := hid fun V h => putUnsigned_e x a V h hl
      have HPV : Hid (∀ V A b c, LfIn V x a → b.length ≤ 1000000 → Lie V V.heap.size A (bvs b) → Calls Try.prog 87 #[.slice A b.length c, .slice a.a4 x.sig.length a.c4] V (RetQ V (b ++ vecBytes x.sig))) := hid fun V A b c h hb hq => PutVecQ _ _ _ _ _ _ V (by have := hl.2.2.2.2.1; omega) (by omega) hq h.2.2.2.2
      have HAL : Hid ((aheadB x).length ≤ 1000000) := hid (by
        have v1 := vec_le (xs := x.box) (by have := hl.1; omega); have v2 := vec_le (xs := x.sign) (by have := hl.2.1; omega); have v3 := vec_le (xs := x.ident) (by have := hl.2.2.1; omega); have v4 := vec_le (xs := x.par) (by have := hl.2.2.2.1; omega)
        unfold aheadB
        split <;> simp only [List.length_append, List.length_cons, List.length_nil] <;> omega)
      have HVL : Hid ((vecBytes x.sig).length ≤ 100004) := hid (vec_le (by have := hl.2.2.2.2.1; omega))
      obtain ⟨ab, ha⟩ : ∃ t, t = aheadB x := ⟨_, rfl⟩
      rw [← ha] at HPU HAL HNB2
      obtain ⟨vs, hv⟩ : ∃ t, t = vecBytes x.sig := ⟨_, rfl⟩
      rw [← hv] at HPV HNB2 HVL
      have HCS : Hid (∀ w', Below W.heap.size W w' → w'.cell? ⟨w.heap.size, 6, none⟩ = some (.slice a.a4 x.sig.length a.c4)) := hid fun w' h => cell_of ((h.block _ (block_lt K3.out)).trans K3.out) 6 _ rfl
      have HXV : Hid (∀ V, Below W.heap.size W V → LfIn V x a) := hid fun V h => HX2.out.on h
      clear hnb HNB HRK hlf hl ha hv HX2 HU2
      have HB : Hid (Below W.heap.size W W) := hid (Below.refl _ _)
      go_upto_region 6 with fail
      refine wp_region_grA 8 (by kernel_rfl) (by decide) ?_
      refine wpGrA_take (i := 0) (.slice AB 1 cb) rfl (by kernel_rfl) (by kernel_rfl) (fun _ _ _ h => h) (yG_val _ (by rfl) (fun w' hb => by (go_simp; try rfl))) ?_
      (try simp only [Act.put, List.getElem_toArray, List.getElem_cons_succ, List.getElem_cons_zero, List.setIfInBounds_toArray, List.set_cons_zero, List.set_cons_succ])
      refine wpGrA_take (i := 1) (.pointer (some ⟨w.heap.size, 1, none⟩)) rfl (by kernel_rfl) (by kernel_rfl) (fun _ _ _ h => h) (yG_val _ (by rfl) (fun w' hb => by (go_simp; try rfl))) ?_
      (try simp only [Act.put, List.getElem_toArray, List.getElem_cons_succ, List.getElem_cons_zero, List.setIfInBounds_toArray, List.set_cons_zero, List.set_cons_succ])
      refine wpGrA_take (i := 2) (.agg (lfV x a)) rfl (by kernel_rfl) (by kernel_rfl) (fun _ _ _ h => h) (yG_part (by rfl) LfT (.tmp 17) rfl w.heap.size 1 rfl NdT (ndV 1 x a u p) (lfV x a) (0, 0) _ K3.out rfl Try.underlying27 rfl infoLf) ?_
      (try simp only [Act.put, List.getElem_toArray, List.getElem_cons_succ, List.getElem_cons_zero, List.setIfInBounds_toArray, List.set_cons_zero, List.set_cons_succ])
      refine wpGrA_take (i := 4) (.pointer (some ⟨w.heap.size, 1, none⟩)) rfl (by kernel_rfl) (by kernel_rfl) (fun _ _ _ h => h) (yG_val _ (by rfl) (fun w' hb => by (go_simp; try rfl))) ?_
      (try simp only [Act.put, List.getElem_toArray, List.getElem_cons_succ, List.getElem_cons_zero, List.setIfInBounds_toArray, List.set_cons_zero, List.set_cons_succ])
      refine wpGrA_take (i := 5) (.pointer (some ⟨w.heap.size, 6, none⟩)) rfl (by kernel_rfl) (by kernel_rfl) (fun _ _ _ h => h) (yG_val _ (by rfl) (fun w' hb => by (go_simp; try rfl))) ?_
      (try simp only [Act.put, List.getElem_toArray, List.getElem_cons_succ, List.getElem_cons_zero, List.setIfInBounds_toArray, List.set_cons_zero, List.set_cons_succ])
      refine wpGrA_take (i := 6) (.slice a.a4 x.sig.length a.c4) rfl (by kernel_rfl) (by kernel_rfl) (fun _ _ _ h => h) (yG_val _ (by rfl) (fun w' hb => by have c := HCS.out w' hb; (go_simp; try rfl))) ?_
      (try simp only [Act.put, List.getElem_toArray, List.getElem_cons_succ, List.getElem_cons_zero, List.setIfInBounds_toArray, List.set_cons_zero, List.set_cons_succ])
      refine wpGrA_q (i := 3) (ab) rfl (by kernel_rfl) (by rfl) (fun w' => by go_simp) (fun w' hb => HPU.out w' (HXV.out w' (HB.out.trans (hb.mono HB.out.size)))) ?_
      intro B1 d1 v1 hb hq
      have HOn := hid (own_on HO.out hb)
      have HBn := hid (HB.out.trans (hb.mono HB.out.size))
      clear HB HO
      have HB := HBn
      have HO := HOn
      clear HBn HOn
      have Q1 := hid hq
      clear hb hq
      (try simp only [Act.put, List.getElem_toArray, List.getElem_cons_succ, List.getElem_cons_zero, List.setIfInBounds_toArray, List.set_cons_zero, List.set_cons_succ])
      refine wpGrA_q (i := 7) (ab ++ vs) rfl (by kernel_rfl) (by rfl) (fun w' => by go_simp) (fun w' hb => HPV.out w' B1 ab d1 (HXV.out w' (HB.out.trans (hb.mono HB.out.size))) HAL.out (((Q1.out.below hb).more hb.size).lie)) ?_
      intro B2 d2 v2 hb hq
      have Q1n := hid ((Q1.out.below hb).more hb.size)
      have HOn := hid (own_on HO.out hb)
      have HBn := hid (HB.out.trans (hb.mono HB.out.size))
      clear HB Q1 HO
      have HB := HBn
      have Q1 := Q1n
      have HO := HOn
      clear HBn Q1n HOn
      have Q2 := hid hq
      clear hb hq
      (try simp only [Act.put, List.getElem_toArray, List.getElem_cons_succ, List.getElem_cons_zero, List.setIfInBounds_toArray, List.set_cons_zero, List.set_cons_succ])
      refine wpGrA_end (by kernel_rfl) ?_
      intro wz hb
      have Q1n := hid ((Q1.out.below hb).more hb.size)
      have Q2n := hid ((Q2.out.below hb).more hb.size)
      have HOn := hid (own_on HO.out hb)
      have HBn := hid (HB.out.trans (hb.mono HB.out.size))
      clear HB Q1 Q2 HO
      have HB := HBn
      have Q1 := Q1n
      have Q2 := Q2n
      have HO := HOn
      clear HBn Q1n Q2n HOn
      clear hb
      simp only [List.drop_succ_cons, List.drop_zero]
      obtain ⟨mm, hmm⟩ : ∃ t, t = ab ++ vs := ⟨_, rfl⟩
      rw [← hmm] at Q2 HNB2 ⊢
      have HML : Hid (mm.length ≤ 2000000) := hid (by rw [hmm, List.length_append]; have := HAL.out; have := HVL.out; omega)
      have HMM : Hid (ZZ = [UInt8.ofNat 1] ++ mm) := hid HNB2.out
      clear hmm
      go_wp2_with (at_builtin; refine wpList_append_lie rfl _ _ 25 rfl w.heap.size 5 (.int .u8 0) 1 Try.underlying25 infoU8 rfl rfl HO.out (bvs_length _) rfl Q2.out.lie (bvs_one _) ?d1 ?d2 ?d3 ?_)
      case d1 => have := HML.out; unfold maxLen; simp only [List.length_cons, List.length_nil]; omega
      case d2 => have := HML.out; simp only [List.length_cons, List.length_nil]; omega
      case d3 => exact Nat.le_trans HW0.out.size HB.out.size
      intro v5 w5 hown5 hg5 _
      have HO5 : Hid (OwnB w5 w.heap.size v5 ZZ) := hid (by unfold OwnB; rw [HMM.out, List.length_append, bvs_append]; exact hown5)
      have HB5 : Hid (Below w.heap.size w w5) := hid ((HW0.out.trans (HB.out.mono HW0.out.size)).grown hg5 (Nat.le_trans HW0.out.size HB.out.size) (own_lt HO.out))
      clear hown5 hg5
      obtain ⟨A5, d5, rfl, hs5⟩ := own_sl HO5.out
      go_wp2
      go_ret2
      exact ⟨A5, d5, rfl, hs5.sq, HB5.out⟩
    · have hnb := HNB.out
      rw [if_neg (by decide), if_pos rfl] at hnb
      have HPP : Hid (∀ V : World, PrIn V u p → Calls Try.prog 89 #[.agg (prV u p)] V (RetQ V ((vecBytes u.box ++ vecBytes u.hash) ++ vecBytes (lateBy u.late)))) := hid fun V h => putParent_e u p V h hpr
      have hml : ((vecBytes u.box ++ vecBytes u.hash) ++ vecBytes (lateBy u.late)).length ≤ 2000000 := by
        obtain ⟨h1, h2, h3⟩ := parB_len hpr
        have v1 := vec_le (xs := u.box) (by omega); have v2 := vec_le (xs := u.hash) (by omega)
        have v3 : (vecBytes (lateBy u.late)).length ≤ 262148 := by
          unfold vecBytes
          rw [List.length_append, lenBytes_length, lateBy_length]
          have := (lenSize_le (4 * u.late.length)).2; have := rise_count h1; omega
        simp only [List.length_append]; omega
      obtain ⟨mm, hmm⟩ : ∃ t, t = (vecBytes u.box ++ vecBytes u.hash) ++ vecBytes (lateBy u.late) := ⟨_, rfl⟩
      have HMM : Hid (ZZ = [UInt8.ofNat 2] ++ mm) := hid (by rw [hnb, hmm]; simp only [List.append_assoc]; rfl)
      rw [← hmm] at HPP hml
      have HML := hid hml
      clear hnb HNB HRK hpr hmm hml HX2
      have x7 := cell_of K3.out 7 _ rfl; have x8 := cell_of K3.out 8 _ rfl; have x9 := cell_of K3.out 9 _ rfl
      go_wp2_with fail
      refine (HPP.out _ HU2.out).mono ?_
      rintro ee w4 ⟨A4, d4, rfl, hs4, hb⟩
      have Q2 := hid hs4; have HB := hid hb
      have HOn := hid (own_on HO.out hb)
      clear hs4 hb HO
      have HO := HOn
      clear HOn x0 x7 x8 x9 HPP
      go_wp2_with (at_builtin; refine wpList_append_lie rfl _ _ 25 rfl w.heap.size 5 (.int .u8 0) 1 Try.underlying25 infoU8 rfl rfl HO.out (bvs_length _) rfl Q2.out.lie (bvs_one _) ?d1 ?d2 ?d3 ?_)
      case d1 => have := HML.out; unfold maxLen; simp only [List.length_cons, List.length_nil]; omega
      case d2 => have := HML.out; simp only [List.length_cons, List.length_nil]; omega
      case d3 => exact Nat.le_trans HW0.out.size HB.out.size
      intro v5 w5 hown5 hg5 _
      have HO5 : Hid (OwnB w5 w.heap.size v5 ZZ) := hid (by unfold OwnB; rw [HMM.out, List.length_append, bvs_append]; exact hown5)
      have HB5 : Hid (Below w.heap.size w w5) := hid ((HW0.out.trans (HB.out.mono HW0.out.size)).grown hg5 (Nat.le_trans HW0.out.size HB.out.size) (own_lt HO.out))
      clear hown5 hg5
      obtain ⟨A5, d5, rfl, hs5⟩ := own_sl HO5.out
      go_wp2
      go_ret2
      exact ⟨A5, d5, rfl, hs5.sq, HB5.out⟩
end Go.Proofs.Ythooibljnfnnhaa
end
