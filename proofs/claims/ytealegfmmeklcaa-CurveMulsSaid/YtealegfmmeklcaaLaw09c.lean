/-
  The statement CurveMuls: the walk.
-/
import Derived.Test.YtealegfmmeklcaaLaw09a
import Derived.Test.YtealegfmmeklcaaCvM
import Derived.Test.YtealegfmmeklcaaCvQ
import Derived.Test.YtealegfmmeklcaaCutP
namespace Go.Proofs.Ytealegfmmeklcaa
open Go Go.RowKit
set_option linter.unusedVariables false
set_option linter.unusedSimpArgs false

theorem builtS0 : Try.prog.built ST [] = some (sF 0) := by rw [← zS_sF]; exact builtS
theorem built1y (y : UInt8) : Try.prog.builtSlice 5 1 [(0, .int .u8 (y.toNat : Int))] = some (bvs [y]).toArray := by kernel_rfl
theorem ofS_byte (y : UInt8) : (ofS [y]).val = y.toNat := by
  show leN ([y].take 64) % ordL = y.toNat
  have h : leN ([y].take 64) = y.toNat := by simp [leN]
  have hl := y.toNat_lt
  rw [h, Nat.mod_eq_of_lt (Nat.lt_of_lt_of_le hl (by decide +kernel))]
set_option maxRecDepth 100000 in
set_option maxHeartbeats 4000000 in
theorem muls9_any (A : Option Addr) (xs : List UInt8) (c : Nat) (A' : Option Addr) (ys : List UInt8) (c' : Nat) (A'' : Option Addr) (zs : List UInt8) (c'' : Nat) (t : Int) (w : World) (hS : Sq w w.heap.size A c (bvs xs)) (hS' : Sq w w.heap.size A' c' (bvs ys)) (hS'' : Sq w w.heap.size A'' c'' (bvs zs)) (ht0 : 0 ≤ t) (ht1 : t ≤ 255) :
    Calls Try.prog 5 #[.slice A xs.length c, .slice A' ys.length c', .slice A'' zs.length c'', .int .u8 t] w fun e w' => e = .returned (.bool true) ∧ Below w.heap.size w w' := by
  have hx := len_cap hS
  have HS := hid hS; have HS' := hid hS'; have HS'' := hid hS''
  have HAL := hid alive9_any
  clear hS hS' hS''
  by_cases hy : 64 < ys.length
  · have hyi : (64 : Int) < (ys.length : Int) := by omega
    clear hy ht0 ht1
    go_enter Try.func5, Try.ntmps5
    go_wp2_with fail
    refine (HAL.out _).mono ?_
    rintro e w1 ⟨rfl, hb1⟩
    go_wp2
    go_ret
    exact ⟨rfl, hb1⟩
  have hyi : ¬ (64 : Int) < (ys.length : Int) := by omega
  by_cases hz : 64 < zs.length
  · have hzi : (64 : Int) < (zs.length : Int) := by omega
    clear hz ht0 ht1
    go_enter Try.func5, Try.ntmps5
    go_wp2_with fail
    refine (HAL.out _).mono ?_
    rintro e w1 ⟨rfl, hb1⟩
    go_wp2
    go_ret
    exact ⟨rfl, hb1⟩
  have hzi : ¬ (64 : Int) < (zs.length : Int) := by omega
  obtain ⟨vx, hvx, KX⟩ := CvOf xs hx
  have HVX := hid hvx
  generalize (ptOf xs).isSome = bx at KX
  generalize ptO xs = px at HVX
  have HOY := scOf ys (by omega)
  have HOZ := scOf zs (by omega)
  have HO1 := scOf [1] (by decide)
  rw [show ofS [1] = (1 : SF) from Fin.ext (by decide +kernel)] at HO1
  obtain ⟨s, hs⟩ : ∃ v : SF, v = ofS ys := ⟨_, rfl⟩
  obtain ⟨t', ht'⟩ : ∃ v : SF, v = ofS zs := ⟨_, rfl⟩
  obtain ⟨u, hu⟩ : ∃ v : SF, v = 1 := ⟨_, rfl⟩
  rw [← hs] at HOY
  rw [← ht'] at HOZ
  rw [← hu] at HO1
  obtain ⟨m, hm⟩ : ∃ m : Nat, m = t.toNat % 12 := ⟨_, rfl⟩
  obtain ⟨y, hyb⟩ : ∃ y : UInt8, y = UInt8.ofNat m := ⟨_, rfl⟩
  have hym : y.toNat = m := by rw [hyb, UInt8.toNat_ofNat']; omega
  have hrem : t.tmod 12 = (m : Int) := by rw [Int.tmod_eq_emod_of_nonneg ht0]; omega
  have hrem' : t % 12 = (m : Int) := by omega
  have hw8 : IntKind.u8.wrap (m : Int) = (m : Int) := by rw [IntKind.wrap_u8]; omega
  have hwt : IntKind.i64.wrap t = t := IntWalk.i64_in _ (by omega)
  have hmw : IntKind.i64.wrap (m : Int) = (m : Int) := IntWalk.i64_in _ (by omega)
  have hm12 : m < 12 := by omega
  have HOe := scOf [y] (by simp)
  obtain ⟨ev, hev⟩ : ∃ v : SF, v = ofS [y] := ⟨_, rfl⟩
  rw [← hev] at HOe
  have hem : ev.val = m := by rw [hev, ofS_byte, hym]
  clear hvx hx hy hz hm hev ht' hs hyb ht0 ht1
  obtain ⟨st, hst⟩ : ∃ v : SF, v = s + t' := ⟨_, rfl⟩
  have Kst := scAdd hst
  obtain ⟨sm, hsm⟩ : ∃ v : SF, v = s * t' := ⟨_, rfl⟩
  have Ksm := scMul hsm
  obtain ⟨un, hun⟩ : ∃ v : SF, v = -u := ⟨_, rfl⟩
  have Kun := scNeg hun
  obtain ⟨sn, hsn⟩ : ∃ v : SF, v = -s := ⟨_, rfl⟩
  have Ksn := scNeg hsn
  have E1 : Hid (ev.val = m) := hid hem
  have E2 : Hid (Pt.times st.val Gb = (Pt.times s.val Gb).add (Pt.times t'.val Gb)) := hid (by rw [hst]; exact mul_add_s s t')
  have E3 : Hid (Pt.times sm.val Gb = Pt.times t'.val (Pt.times s.val Gb)) := hid (by rw [hsm]; exact mul_mul_s s t')
  have E4 : Hid ((Pt.times un.val Gb).add Gb = Pt.zero) := hid (by rw [hun]; exact mul_m1 u hu)
  have E5 : Hid (Pt.times sn.val Gb = (Pt.times s.val Gb).neg) := hid (by rw [hsn]; exact mul_neg_s s)
  have E6 : Hid (u = 1) := hid hu
  clear hem hst hsm hun hsn hu
  have HYM := hid hym
  have HB1 : Hid (Try.prog.builtSlice 5 1 [(0, .int .u8 (m : Int))] = some (bvs [y]).toArray) := hid (by rw [← hym]; exact built1y y)
  clear hym
  go_enter Try.func5, Try.ntmps5
  go_wp2_with fail
  refine (HAL.out _).mono ?_
  rintro e w0 ⟨rfl, hb⟩
  have S0 : Hid (St w w0 [] []) := hid ((St.start w).on hb)
  clear hb
  go_upto_region 5 with fail
  refine wpLA_start ?_
  refine wpLA_take (.slice A (xs.length) c) (yG_val _ (by rfl) (fun w' _ => by (go_simp; try rfl))) ?_
  (try simp only [Act.put, List.getElem_toArray, List.getElem_cons_succ, List.getElem_cons_zero, List.setIfInBounds_toArray, List.set_cons_zero, List.set_cons_succ])
  refine wpLA_take (.tuple #[(.agg (vx)), (.bool bx)]) (yG_call (by rfl) (fun w' => by go_simp) (fun w' hb => KX.out _ _ w' (HS.out.on6 ((S0.out.on hb).below)))) ?_
  (try simp only [Act.put, List.getElem_toArray, List.getElem_cons_succ, List.getElem_cons_zero, List.setIfInBounds_toArray, List.set_cons_zero, List.set_cons_succ])
  refine wpLA_take (.tuple #[(.agg (vx)), (.bool bx)]) (yG_val _ (by rfl) (fun w' _ => by (go_simp; try rfl))) ?_
  (try simp only [Act.put, List.getElem_toArray, List.getElem_cons_succ, List.getElem_cons_zero, List.setIfInBounds_toArray, List.set_cons_zero, List.set_cons_succ])
  refine wpLA_take (.agg (vx)) (yG_val _ (by rfl) (fun w' _ => by (go_simp; try rfl))) ?_
  (try simp only [Act.put, List.getElem_toArray, List.getElem_cons_succ, List.getElem_cons_zero, List.setIfInBounds_toArray, List.set_cons_zero, List.set_cons_succ])
  refine wpLA_take (.bool bx) (yG_val _ (by rfl) (fun w' _ => by (go_simp; try rfl))) ?_
  (try simp only [Act.put, List.getElem_toArray, List.getElem_cons_succ, List.getElem_cons_zero, List.setIfInBounds_toArray, List.set_cons_zero, List.set_cons_succ])
  refine wpLA_alloc (by rfl) rfl zeroP ?_
  intro p1 w1 hp hz hb
  have S1 : Hid (St w w1 [(p1, zP, PT)] []) := hid (S0.out.alloc hb hp hz)
  clear hp hz hb S0
  (try simp only [Act.put, List.getElem_toArray, List.getElem_cons_succ, List.getElem_cons_zero, List.setIfInBounds_toArray, List.set_cons_zero, List.set_cons_succ])
  refine wpLA_store rfl PT (.tmp 9) (.tmp 30) rfl p1 (vx) rfl rfl PT (zP) S1.out.cl.1 HVX.out.info (zP_is.size2 HVX.out) HVX.out.one ?_
  intro wx hb
  have S2 : Hid (St w (wx.setRow p1 (vx)) [(p1, vx, PT)] []) := hid ((S1.out.on hb).put0 0 rfl)
  clear hb S1
  generalize wx.setRow p1 (vx) = w2 at S2 ⊢
  (try simp only [Act.put, List.getElem_toArray, List.getElem_cons_succ, List.getElem_cons_zero, List.setIfInBounds_toArray, List.set_cons_zero, List.set_cons_succ])
  refine wpLA_take (.bool bx) (yG_val _ (by rfl) (fun w' _ => by (go_simp; try rfl))) ?_
  (try simp only [Act.put, List.getElem_toArray, List.getElem_cons_succ, List.getElem_cons_zero, List.setIfInBounds_toArray, List.set_cons_zero, List.set_cons_succ])
  refine wpLA_end ?_
  intro w3 hb
  have S3 := hid (S2.out.on hb)
  clear hb S2
  go_upto_if 33 with fail
  go_cut [] from 34 (fun wr => ∃ v p, PtV v p ∧ St w wr [(p1, v, PT)] [])
  case first =>
    cases bx with
    | true =>
      go_wp2_with fail
      go_meet
      case rel => exact ⟨_, _, HVX.out, S3.out⟩
    | false =>
      go_upto_region 7 with fail
      refine wpLA_start ?_
      obtain ⟨s1, g1, L1⟩ := CvBase
      have G1 := hid g1
      clear g1
      refine wpLA_take (.agg (s1)) (yG_call (by rfl) (fun w' => by go_simp) (fun w' hb => L1.out w')) ?_
      (try simp only [Act.put, List.getElem_toArray, List.getElem_cons_succ, List.getElem_cons_zero, List.setIfInBounds_toArray, List.set_cons_zero, List.set_cons_succ])
      refine wpLA_store rfl PT (.tmp 9) (.tmp 34) rfl p1 (s1) rfl rfl PT (vx) S3.out.cl.1 G1.out.info (HVX.out.size2 G1.out) G1.out.one ?_
      intro wx hb
      have S4 : Hid (St w (wx.setRow p1 (s1)) [(p1, s1, PT)] []) := hid ((S3.out.on hb).put0 0 rfl)
      clear hb S3
      generalize wx.setRow p1 (s1) = w4 at S4 ⊢
      (try simp only [Act.put, List.getElem_toArray, List.getElem_cons_succ, List.getElem_cons_zero, List.setIfInBounds_toArray, List.set_cons_zero, List.set_cons_succ])
      refine wpLA_end ?_
      intro w5 hb
      have S5 := hid (S4.out.on hb)
      clear hb S4
      go_wp2_with fail
      go_meet
      case rel => exact ⟨_, _, G1.out, S5.out⟩
  obtain ⟨c6, p, hv, hs⟩ := hcut
  have HV6 := hid hv
  have S6 := hid hs
  clear hv hs S3
  generalize wc = w6 at S6 ⊢
  go_upto_region 8 with fail
  refine wpLA_start ?_
  obtain ⟨s2, g2, L2⟩ := CvBase
  have G2 := hid g2
  clear g2
  refine wpLA_take (.agg (s2)) (yG_call (by rfl) (fun w' => by go_simp) (fun w' hb => L2.out w')) ?_
  (try simp only [Act.put, List.getElem_toArray, List.getElem_cons_succ, List.getElem_cons_zero, List.setIfInBounds_toArray, List.set_cons_zero, List.set_cons_succ])
  refine wpLA_alloc (by rfl) rfl zeroP ?_
  intro p7 w7 hp hz hb
  have S7 : Hid (St w w7 [(p7, zP, PT), (p1, c6, PT)] []) := hid (S6.out.alloc hb hp hz)
  clear hp hz hb S6
  (try simp only [Act.put, List.getElem_toArray, List.getElem_cons_succ, List.getElem_cons_zero, List.setIfInBounds_toArray, List.set_cons_zero, List.set_cons_succ])
  refine wpLA_store rfl PT (.tmp 11) (.tmp 35) rfl p7 (s2) rfl rfl PT (zP) S7.out.cl.1 G2.out.info (zP_is.size2 G2.out) G2.out.one ?_
  intro wx hb
  have S8 : Hid (St w (wx.setRow p7 (s2)) [(p7, s2, PT), (p1, c6, PT)] []) := hid ((S7.out.on hb).put0 0 rfl)
  clear hb S7
  generalize wx.setRow p7 (s2) = w8 at S8 ⊢
  (try simp only [Act.put, List.getElem_toArray, List.getElem_cons_succ, List.getElem_cons_zero, List.setIfInBounds_toArray, List.set_cons_zero, List.set_cons_succ])
  refine wpLA_end ?_
  intro w9 hb
  have S9 := hid (S8.out.on hb)
  clear hb S8
  go_upto_region 9 with fail
  refine wpLA_start ?_
  refine wpLA_take (.slice A' (ys.length) c') (yG_val _ (by rfl) (fun w' _ => by (go_simp; try rfl))) ?_
  (try simp only [Act.put, List.getElem_toArray, List.getElem_cons_succ, List.getElem_cons_zero, List.setIfInBounds_toArray, List.set_cons_zero, List.set_cons_succ])
  refine wpLA_take (.agg (sF s)) (yG_call (by rfl) (fun w' => by go_simp) (fun w' hb => HOY.out _ _ w' (HS'.out.on6 ((S9.out.on hb).below)))) ?_
  (try simp only [Act.put, List.getElem_toArray, List.getElem_cons_succ, List.getElem_cons_zero, List.setIfInBounds_toArray, List.set_cons_zero, List.set_cons_succ])
  refine wpLA_take (.slice A'' (zs.length) c'') (yG_val _ (by rfl) (fun w' _ => by (go_simp; try rfl))) ?_
  (try simp only [Act.put, List.getElem_toArray, List.getElem_cons_succ, List.getElem_cons_zero, List.setIfInBounds_toArray, List.set_cons_zero, List.set_cons_succ])
  refine wpLA_take (.agg (sF t')) (yG_call (by rfl) (fun w' => by go_simp) (fun w' hb => HOZ.out _ _ w' (HS''.out.on6 ((S9.out.on hb).below)))) ?_
  (try simp only [Act.put, List.getElem_toArray, List.getElem_cons_succ, List.getElem_cons_zero, List.setIfInBounds_toArray, List.set_cons_zero, List.set_cons_succ])
  refine wpLA_alloc (by rfl) rfl zeroS ?_
  intro p10 w10 hp hz hb
  have S10 : Hid (St w w10 [(p10, zS, ST), (p7, s2, PT), (p1, c6, PT)] []) := hid (S9.out.alloc hb hp hz)
  clear hp hz hb S9
  (try simp only [Act.put, List.getElem_toArray, List.getElem_cons_succ, List.getElem_cons_zero, List.setIfInBounds_toArray, List.set_cons_zero, List.set_cons_succ])
  refine wpLA_alloc (by rfl) rfl zeroS ?_
  intro p11 w11 hp hz hb
  have S11 : Hid (St w w11 [(p11, zS, ST), (p10, zS, ST), (p7, s2, PT), (p1, c6, PT)] []) := hid (S10.out.alloc hb hp hz)
  clear hp hz hb S10
  (try simp only [Act.put, List.getElem_toArray, List.getElem_cons_succ, List.getElem_cons_zero, List.setIfInBounds_toArray, List.set_cons_zero, List.set_cons_succ])
  refine wpLA_store rfl ST (.tmp 12) (.tmp 37) rfl p10 (sF s) rfl rfl ST (zS) S11.out.cl.2.1 (infoSF _) rfl (oneSF _) ?_
  intro wx hb
  have S12 : Hid (St w (wx.setRow p10 (sF s)) [(p11, zS, ST), (p10, sF s, ST), (p7, s2, PT), (p1, c6, PT)] []) := hid ((S11.out.on hb).put0 1 rfl)
  clear hb S11
  generalize wx.setRow p10 (sF s) = w12 at S12 ⊢
  (try simp only [Act.put, List.getElem_toArray, List.getElem_cons_succ, List.getElem_cons_zero, List.setIfInBounds_toArray, List.set_cons_zero, List.set_cons_succ])
  refine wpLA_store rfl ST (.tmp 13) (.tmp 39) rfl p11 (sF t') rfl rfl ST (zS) S12.out.cl.1 (infoSF _) rfl (oneSF _) ?_
  intro wx hb
  have S13 : Hid (St w (wx.setRow p11 (sF t')) [(p11, sF t', ST), (p10, sF s, ST), (p7, s2, PT), (p1, c6, PT)] []) := hid ((S12.out.on hb).put0 0 rfl)
  clear hb S12
  generalize wx.setRow p11 (sF t') = w13 at S13 ⊢
  (try simp only [Act.put, List.getElem_toArray, List.getElem_cons_succ, List.getElem_cons_zero, List.setIfInBounds_toArray, List.set_cons_zero, List.set_cons_succ])
  refine wpLA_end ?_
  intro w14 hb
  have S14 := hid (S13.out.on hb)
  clear hb S13
  go_upto_region 10 with fail
  refine wpLA_start ?_
  refine wpLA_slice rfl _ _ 1 _ rfl Try.underlying22 [(0, (.int .u8 1))] rfl (bvs [1]) (built1y 1) (by decide) (by decide) ?_
  intro p15 w15 hb hs
  have S15 : Hid (St w w15 [(p11, sF t', ST), (p10, sF s, ST), (p7, s2, PT), (p1, c6, PT)] [((some ⟨p15, 0, none⟩), 1, bvs [1])]) := hid ((S14.out.on hb).more hs)
  clear hb hs S14
  (try simp only [Act.put, List.getElem_toArray, List.getElem_cons_succ, List.getElem_cons_zero, List.setIfInBounds_toArray, List.set_cons_zero, List.set_cons_succ])
  refine wpLA_take (.agg (sF u)) (yG_call (by rfl) (fun w' => by go_simp) (fun w' hb => HO1.out _ _ w' (S15.out.on hb).sq.1)) ?_
  (try simp only [Act.put, List.getElem_toArray, List.getElem_cons_succ, List.getElem_cons_zero, List.setIfInBounds_toArray, List.set_cons_zero, List.set_cons_succ])
  refine wpLA_alloc (by rfl) rfl zeroS ?_
  intro p16 w16 hp hz hb
  have N16 := hid (S15.out.sq.far hp)
  have S16 : Hid (St w w16 [(p16, zS, ST), (p11, sF t', ST), (p10, sF s, ST), (p7, s2, PT), (p1, c6, PT)] [((some ⟨p15, 0, none⟩), 1, bvs [1])]) := hid (S15.out.alloc hb hp hz)
  clear hp hz hb S15
  (try simp only [Act.put, List.getElem_toArray, List.getElem_cons_succ, List.getElem_cons_zero, List.setIfInBounds_toArray, List.set_cons_zero, List.set_cons_succ])
  refine wpLA_store rfl ST (.tmp 14) (.tmp 41) rfl p16 (sF u) rfl rfl ST (zS) S16.out.cl.1 (infoSF _) rfl (oneSF _) ?_
  intro wx hb
  have S17 : Hid (St w (wx.setRow p16 (sF u)) [(p16, sF u, ST), (p11, sF t', ST), (p10, sF s, ST), (p7, s2, PT), (p1, c6, PT)] [((some ⟨p15, 0, none⟩), 1, bvs [1])]) := hid ((S16.out.on hb).put 0 rfl N16.out)
  clear hb S16
  generalize wx.setRow p16 (sF u) = w17 at S17 ⊢
  (try simp only [Act.put, List.getElem_toArray, List.getElem_cons_succ, List.getElem_cons_zero, List.setIfInBounds_toArray, List.set_cons_zero, List.set_cons_succ])
  refine wpLA_end ?_
  intro w18 hb
  have S18 := hid (S17.out.on hb)
  clear hb S17
  have S19 := hid (S18.out.less)
  clear S18
  go_upto_region 11 with fail
  refine wpLA_start ?_
  obtain ⟨s3, g3, L3⟩ := CvNothing
  have G3 := hid g3
  clear g3
  refine wpLA_take (.agg (s3)) (yG_call (by rfl) (fun w' => by go_simp) (fun w' hb => L3.out w')) ?_
  (try simp only [Act.put, List.getElem_toArray, List.getElem_cons_succ, List.getElem_cons_zero, List.setIfInBounds_toArray, List.set_cons_zero, List.set_cons_succ])
  refine wpLA_alloc (by rfl) rfl zeroP ?_
  intro p20 w20 hp hz hb
  have S20 : Hid (St w w20 [(p20, zP, PT), (p16, sF u, ST), (p11, sF t', ST), (p10, sF s, ST), (p7, s2, PT), (p1, c6, PT)] []) := hid (S19.out.alloc hb hp hz)
  clear hp hz hb S19
  (try simp only [Act.put, List.getElem_toArray, List.getElem_cons_succ, List.getElem_cons_zero, List.setIfInBounds_toArray, List.set_cons_zero, List.set_cons_succ])
  refine wpLA_store rfl PT (.tmp 15) (.tmp 42) rfl p20 (s3) rfl rfl PT (zP) S20.out.cl.1 G3.out.info (zP_is.size2 G3.out) G3.out.one ?_
  intro wx hb
  have S21 : Hid (St w (wx.setRow p20 (s3)) [(p20, s3, PT), (p16, sF u, ST), (p11, sF t', ST), (p10, sF s, ST), (p7, s2, PT), (p1, c6, PT)] []) := hid ((S20.out.on hb).put0 0 rfl)
  clear hb S20
  generalize wx.setRow p20 (s3) = w21 at S21 ⊢
  (try simp only [Act.put, List.getElem_toArray, List.getElem_cons_succ, List.getElem_cons_zero, List.setIfInBounds_toArray, List.set_cons_zero, List.set_cons_succ])
  refine wpLA_end ?_
  intro w22 hb
  have S22 := hid (S21.out.on hb)
  clear hb S21
  go_wp2_with fail
  go_loopg [16] m (fun g i wr => ∃ (k : Nat) (v : Array Value), k + g = m ∧ i = .int .i64 (k : Int) ∧ PtV v (Pt.times k p) ∧ St w wr [(p20, v, PT), (p16, sF u, ST), (p11, sF t', ST), (p10, sF s, ST), (p7, s2, PT), (p1, c6, PT)] [])
  case atStart => exact ⟨0, _, by omega, rfl, G3.out, S22.out⟩
  case round =>
    clear S22
    obtain ⟨k, v, hk, rfl, hv, hs⟩ := hrel
    have HV := hid hv
    have HK := hid hk
    have SL := hid hs
    clear hk hv hs
    by_cases hlt : k < m
    · have h1 : (k : Int) < (m : Int) := by omega
      have hkw : IntKind.i64.wrap ((k : Int) + 1) = (k : Int) + 1 := IntWalk.i64_in _ (by omega)
      go_upto_region 15 with fail
      refine wpLA_start ?_
      refine wpLA_take (.agg (v)) (yG_part (by rfl) PT (.tmp 15) rfl p20 0 rfl PT (v) (v) (0, 0) _ SL.out.cl.1 HV.out.all Try.underlying28 rfl HV.out.info) ?_
      (try simp only [Act.put, List.getElem_toArray, List.getElem_cons_succ, List.getElem_cons_zero, List.setIfInBounds_toArray, List.set_cons_zero, List.set_cons_succ])
      refine wpLA_take (.agg (c6)) (yG_part (by rfl) PT (.tmp 9) rfl p1 0 rfl PT (c6) (c6) (0, 0) _ SL.out.cl.2.2.2.2.2.1 HV6.out.all Try.underlying28 rfl HV6.out.info) ?_
      (try simp only [Act.put, List.getElem_toArray, List.getElem_cons_succ, List.getElem_cons_zero, List.setIfInBounds_toArray, List.set_cons_zero, List.set_cons_succ])
      obtain ⟨s4, g4, L4⟩ := CvAdd HV.out HV6.out
      have G4 := hid g4
      clear g4
      refine wpLA_take (.agg (s4)) (yG_call (by rfl) (fun w' => by go_simp) (fun w' hb => L4.out w')) ?_
      (try simp only [Act.put, List.getElem_toArray, List.getElem_cons_succ, List.getElem_cons_zero, List.setIfInBounds_toArray, List.set_cons_zero, List.set_cons_succ])
      refine wpLA_store rfl PT (.tmp 15) (.tmp 52) rfl p20 (s4) rfl rfl PT (v) SL.out.cl.1 G4.out.info (HV.out.size2 G4.out) G4.out.one ?_
      intro wx hb
      have S23 : Hid (St w (wx.setRow p20 (s4)) [(p20, s4, PT), (p16, sF u, ST), (p11, sF t', ST), (p10, sF s, ST), (p7, s2, PT), (p1, c6, PT)] []) := hid ((SL.out.on hb).put0 0 rfl)
      clear hb SL
      generalize wx.setRow p20 (s4) = w23 at S23 ⊢
      (try simp only [Act.put, List.getElem_toArray, List.getElem_cons_succ, List.getElem_cons_zero, List.setIfInBounds_toArray, List.set_cons_zero, List.set_cons_succ])
      refine wpLA_end ?_
      intro w24 hb
      have S24 := hid (S23.out.on hb)
      clear hb S23
      go_wp2_with fail
      have hk := HK.out
      go_roundg (m - k - 1)
      case measure => omega
      case rel => exact ⟨k + 1, _, by omega, by go_num, G4.out, S24.out⟩
    · have hkm : Hid (k = m) := hid (by have := HK.out; omega)
      have h1 : ¬ (k : Int) < (m : Int) := by have := hkm.out; omega
      clear hlt HK
      go_upto_region 16 with fail
      refine wp_region_grA 38 (by kernel_rfl) (by decide) ?_
      refine wpGrA_take (i := 1) (.int .u8 (t)) rfl (by kernel_rfl) (by kernel_rfl) (fun _ _ _ h => h) (yG_val _ (by rfl) (fun w' _ => by (go_simp; try rfl))) ?_
      (try simp only [Act.put, List.getElem_toArray, List.getElem_cons_succ, List.getElem_cons_zero, List.setIfInBounds_toArray, List.set_cons_zero, List.set_cons_succ])
      refine wpGrA_take (i := 2) (.int .u8 (m)) rfl (by kernel_rfl) (by kernel_rfl) (fun _ _ _ h => h) (yG_val _ (by rfl) (fun w' _ => by (go_simp; try rfl))) ?_
      (try simp only [Act.put, List.getElem_toArray, List.getElem_cons_succ, List.getElem_cons_zero, List.setIfInBounds_toArray, List.set_cons_zero, List.set_cons_succ])
      refine wpGrA_take (i := 0) (.agg (c6)) rfl (by kernel_rfl) (by kernel_rfl) (fun _ _ _ h => h) (yG_part (by rfl) PT (.tmp 9) rfl p1 0 rfl PT (c6) (c6) (0, 0) _ SL.out.cl.2.2.2.2.2.1 HV6.out.all Try.underlying28 rfl HV6.out.info) ?_
      (try simp only [Act.put, List.getElem_toArray, List.getElem_cons_succ, List.getElem_cons_zero, List.setIfInBounds_toArray, List.set_cons_zero, List.set_cons_succ])
      refine wpGrA_take (i := 6) (.agg (v)) rfl (by kernel_rfl) (by kernel_rfl) (fun _ _ _ h => h) (yG_part (by rfl) PT (.tmp 15) rfl p20 0 rfl PT (v) (v) (0, 0) _ SL.out.cl.1 HV.out.all Try.underlying28 rfl HV.out.info) ?_
      (try simp only [Act.put, List.getElem_toArray, List.getElem_cons_succ, List.getElem_cons_zero, List.setIfInBounds_toArray, List.set_cons_zero, List.set_cons_succ])
      refine wpGrA_slice (i := 3) rfl (by kernel_rfl) (by rfl) _ _ 1 _ rfl Try.underlying22 [(0, .int .u8 (m : Int))] rfl (bvs [y]) HB1.out (by simp [bvs]) (by decide) ?_
      intro p25 w25 hb hs
      have S25 : Hid (St w w25 [(p20, v, PT), (p16, sF u, ST), (p11, sF t', ST), (p10, sF s, ST), (p7, s2, PT), (p1, c6, PT)] [((some ⟨p25, 0, none⟩), 1, bvs [y])]) := hid ((SL.out.on hb).more hs)
      clear hb hs SL
      (try simp only [Act.put, List.getElem_toArray, List.getElem_cons_succ, List.getElem_cons_zero, List.setIfInBounds_toArray, List.set_cons_zero, List.set_cons_succ])
      refine wpGrA_take (i := 4) (.agg (sF ev)) rfl (by kernel_rfl) (by kernel_rfl) (fun _ _ _ h => h) (yG_call (by rfl) (fun w' => by go_simp) (fun w' hb => HOe.out _ _ w' (S25.out.on hb).sq.1)) ?_
      (try simp only [Act.put, List.getElem_toArray, List.getElem_cons_succ, List.getElem_cons_zero, List.setIfInBounds_toArray, List.set_cons_zero, List.set_cons_succ])
      obtain ⟨s5, g5, L5⟩ := CvMul HV6.out ev
      have G5 := hid g5
      clear g5
      refine wpGrA_take (i := 5) (.agg (s5)) rfl (by kernel_rfl) (by kernel_rfl) (fun _ _ _ h => h) (yG_call (by rfl) (fun w' => by go_simp) (fun w' hb => L5.out w')) ?_
      (try simp only [Act.put, List.getElem_toArray, List.getElem_cons_succ, List.getElem_cons_zero, List.setIfInBounds_toArray, List.set_cons_zero, List.set_cons_succ])
      have L6 := CvSameT G5.out HV.out (by rw [E1.out, hkm.out])
      refine wpGrA_take (i := 7) (.bool true) rfl (by kernel_rfl) (by kernel_rfl) (fun _ _ _ h => h) (yG_call (by rfl) (fun w' => by go_simp) (fun w' hb => L6.out w')) ?_
      (try simp only [Act.put, List.getElem_toArray, List.getElem_cons_succ, List.getElem_cons_zero, List.setIfInBounds_toArray, List.set_cons_zero, List.set_cons_succ])
      refine wpGrA_take (i := 8) (.bool false) rfl (by kernel_rfl) (by kernel_rfl) (fun _ _ _ h => h) (yG_val _ (by rfl) (fun w' _ => by (go_simp; try rfl))) ?_
      (try simp only [Act.put, List.getElem_toArray, List.getElem_cons_succ, List.getElem_cons_zero, List.setIfInBounds_toArray, List.set_cons_zero, List.set_cons_succ])
      refine wpGrA_take (i := 9) (.bool false) rfl (by kernel_rfl) (by kernel_rfl) (fun _ _ _ h => h) (yG_val _ (by rfl) (fun w' _ => by (go_simp; try rfl))) ?_
      (try simp only [Act.put, List.getElem_toArray, List.getElem_cons_succ, List.getElem_cons_zero, List.setIfInBounds_toArray, List.set_cons_zero, List.set_cons_succ])
      refine wpGrA_take (i := 10) (.agg (s2)) rfl (by kernel_rfl) (by kernel_rfl) (fun _ _ _ h => h) (yG_part (by rfl) PT (.tmp 11) rfl p7 0 rfl PT (s2) (s2) (0, 0) _ S25.out.cl.2.2.2.2.1 G2.out.all Try.underlying28 rfl G2.out.info) ?_
      (try simp only [Act.put, List.getElem_toArray, List.getElem_cons_succ, List.getElem_cons_zero, List.setIfInBounds_toArray, List.set_cons_zero, List.set_cons_succ])
      refine wpGrA_take (i := 11) (.agg (sF s)) rfl (by kernel_rfl) (by kernel_rfl) (fun _ _ _ h => h) (yG_part (by rfl) ST (.tmp 12) rfl p10 0 rfl ST (sF s) (sF s) (0, 0) _ S25.out.cl.2.2.2.1 (sF_all _) Try.underlying56 rfl (infoSF _)) ?_
      (try simp only [Act.put, List.getElem_toArray, List.getElem_cons_succ, List.getElem_cons_zero, List.setIfInBounds_toArray, List.set_cons_zero, List.set_cons_succ])
      refine wpGrA_take (i := 12) (.agg (sF t')) rfl (by kernel_rfl) (by kernel_rfl) (fun _ _ _ h => h) (yG_part (by rfl) ST (.tmp 13) rfl p11 0 rfl ST (sF t') (sF t') (0, 0) _ S25.out.cl.2.2.1 (sF_all _) Try.underlying56 rfl (infoSF _)) ?_
      (try simp only [Act.put, List.getElem_toArray, List.getElem_cons_succ, List.getElem_cons_zero, List.setIfInBounds_toArray, List.set_cons_zero, List.set_cons_succ])
      refine wpGrA_take (i := 13) (.agg (sF st)) rfl (by kernel_rfl) (by kernel_rfl) (fun _ _ _ h => h) (yG_call (by rfl) (fun w' => by go_simp) (fun w' hb => Kst.out w')) ?_
      (try simp only [Act.put, List.getElem_toArray, List.getElem_cons_succ, List.getElem_cons_zero, List.setIfInBounds_toArray, List.set_cons_zero, List.set_cons_succ])
      obtain ⟨s7, g7, L7⟩ := CvMul G2.out st
      have G7 := hid g7
      clear g7
      refine wpGrA_take (i := 14) (.agg (s7)) rfl (by kernel_rfl) (by kernel_rfl) (fun _ _ _ h => h) (yG_call (by rfl) (fun w' => by go_simp) (fun w' hb => L7.out w')) ?_
      (try simp only [Act.put, List.getElem_toArray, List.getElem_cons_succ, List.getElem_cons_zero, List.setIfInBounds_toArray, List.set_cons_zero, List.set_cons_succ])
      refine wpGrA_take (i := 15) (.agg (s2)) rfl (by kernel_rfl) (by kernel_rfl) (fun _ _ _ h => h) (yG_part (by rfl) PT (.tmp 11) rfl p7 0 rfl PT (s2) (s2) (0, 0) _ S25.out.cl.2.2.2.2.1 G2.out.all Try.underlying28 rfl G2.out.info) ?_
      (try simp only [Act.put, List.getElem_toArray, List.getElem_cons_succ, List.getElem_cons_zero, List.setIfInBounds_toArray, List.set_cons_zero, List.set_cons_succ])
      refine wpGrA_take (i := 16) (.agg (sF s)) rfl (by kernel_rfl) (by kernel_rfl) (fun _ _ _ h => h) (yG_part (by rfl) ST (.tmp 12) rfl p10 0 rfl ST (sF s) (sF s) (0, 0) _ S25.out.cl.2.2.2.1 (sF_all _) Try.underlying56 rfl (infoSF _)) ?_
      (try simp only [Act.put, List.getElem_toArray, List.getElem_cons_succ, List.getElem_cons_zero, List.setIfInBounds_toArray, List.set_cons_zero, List.set_cons_succ])
      obtain ⟨s8, g8, L8⟩ := CvMul G2.out s
      have G8 := hid g8
      clear g8
      refine wpGrA_take (i := 17) (.agg (s8)) rfl (by kernel_rfl) (by kernel_rfl) (fun _ _ _ h => h) (yG_call (by rfl) (fun w' => by go_simp) (fun w' hb => L8.out w')) ?_
      (try simp only [Act.put, List.getElem_toArray, List.getElem_cons_succ, List.getElem_cons_zero, List.setIfInBounds_toArray, List.set_cons_zero, List.set_cons_succ])
      refine wpGrA_take (i := 18) (.agg (s2)) rfl (by kernel_rfl) (by kernel_rfl) (fun _ _ _ h => h) (yG_part (by rfl) PT (.tmp 11) rfl p7 0 rfl PT (s2) (s2) (0, 0) _ S25.out.cl.2.2.2.2.1 G2.out.all Try.underlying28 rfl G2.out.info) ?_
      (try simp only [Act.put, List.getElem_toArray, List.getElem_cons_succ, List.getElem_cons_zero, List.setIfInBounds_toArray, List.set_cons_zero, List.set_cons_succ])
      refine wpGrA_take (i := 19) (.agg (sF t')) rfl (by kernel_rfl) (by kernel_rfl) (fun _ _ _ h => h) (yG_part (by rfl) ST (.tmp 13) rfl p11 0 rfl ST (sF t') (sF t') (0, 0) _ S25.out.cl.2.2.1 (sF_all _) Try.underlying56 rfl (infoSF _)) ?_
      (try simp only [Act.put, List.getElem_toArray, List.getElem_cons_succ, List.getElem_cons_zero, List.setIfInBounds_toArray, List.set_cons_zero, List.set_cons_succ])
      obtain ⟨s9, g9, L9⟩ := CvMul G2.out t'
      have G9 := hid g9
      clear g9
      refine wpGrA_take (i := 20) (.agg (s9)) rfl (by kernel_rfl) (by kernel_rfl) (fun _ _ _ h => h) (yG_call (by rfl) (fun w' => by go_simp) (fun w' hb => L9.out w')) ?_
      (try simp only [Act.put, List.getElem_toArray, List.getElem_cons_succ, List.getElem_cons_zero, List.setIfInBounds_toArray, List.set_cons_zero, List.set_cons_succ])
      obtain ⟨s10, g10, L10⟩ := CvAdd G8.out G9.out
      have G10 := hid g10
      clear g10
      refine wpGrA_take (i := 21) (.agg (s10)) rfl (by kernel_rfl) (by kernel_rfl) (fun _ _ _ h => h) (yG_call (by rfl) (fun w' => by go_simp) (fun w' hb => L10.out w')) ?_
      (try simp only [Act.put, List.getElem_toArray, List.getElem_cons_succ, List.getElem_cons_zero, List.setIfInBounds_toArray, List.set_cons_zero, List.set_cons_succ])
      have L11 := CvSameT G7.out G10.out E2.out
      refine wpGrA_take (i := 22) (.bool true) rfl (by kernel_rfl) (by kernel_rfl) (fun _ _ _ h => h) (yG_call (by rfl) (fun w' => by go_simp) (fun w' hb => L11.out w')) ?_
      (try simp only [Act.put, List.getElem_toArray, List.getElem_cons_succ, List.getElem_cons_zero, List.setIfInBounds_toArray, List.set_cons_zero, List.set_cons_succ])
      refine wpGrA_take (i := 23) (.bool false) rfl (by kernel_rfl) (by kernel_rfl) (fun _ _ _ h => h) (yG_val _ (by rfl) (fun w' _ => by (go_simp; try rfl))) ?_
      (try simp only [Act.put, List.getElem_toArray, List.getElem_cons_succ, List.getElem_cons_zero, List.setIfInBounds_toArray, List.set_cons_zero, List.set_cons_succ])
      refine wpGrA_take (i := 24) (.bool false) rfl (by kernel_rfl) (by kernel_rfl) (fun _ _ _ h => h) (yG_val _ (by rfl) (fun w' _ => by (go_simp; try rfl))) ?_
      (try simp only [Act.put, List.getElem_toArray, List.getElem_cons_succ, List.getElem_cons_zero, List.setIfInBounds_toArray, List.set_cons_zero, List.set_cons_succ])
      refine wpGrA_take (i := 25) (.bool false) rfl (by kernel_rfl) (by kernel_rfl) (fun _ _ _ h => h) (yG_val _ (by rfl) (fun w' _ => by (go_simp; try rfl))) ?_
      (try simp only [Act.put, List.getElem_toArray, List.getElem_cons_succ, List.getElem_cons_zero, List.setIfInBounds_toArray, List.set_cons_zero, List.set_cons_succ])
      refine wpGrA_take (i := 26) (.agg (s2)) rfl (by kernel_rfl) (by kernel_rfl) (fun _ _ _ h => h) (yG_part (by rfl) PT (.tmp 11) rfl p7 0 rfl PT (s2) (s2) (0, 0) _ S25.out.cl.2.2.2.2.1 G2.out.all Try.underlying28 rfl G2.out.info) ?_
      (try simp only [Act.put, List.getElem_toArray, List.getElem_cons_succ, List.getElem_cons_zero, List.setIfInBounds_toArray, List.set_cons_zero, List.set_cons_succ])
      refine wpGrA_take (i := 27) (.agg (sF s)) rfl (by kernel_rfl) (by kernel_rfl) (fun _ _ _ h => h) (yG_part (by rfl) ST (.tmp 12) rfl p10 0 rfl ST (sF s) (sF s) (0, 0) _ S25.out.cl.2.2.2.1 (sF_all _) Try.underlying56 rfl (infoSF _)) ?_
      (try simp only [Act.put, List.getElem_toArray, List.getElem_cons_succ, List.getElem_cons_zero, List.setIfInBounds_toArray, List.set_cons_zero, List.set_cons_succ])
      refine wpGrA_take (i := 28) (.agg (sF t')) rfl (by kernel_rfl) (by kernel_rfl) (fun _ _ _ h => h) (yG_part (by rfl) ST (.tmp 13) rfl p11 0 rfl ST (sF t') (sF t') (0, 0) _ S25.out.cl.2.2.1 (sF_all _) Try.underlying56 rfl (infoSF _)) ?_
      (try simp only [Act.put, List.getElem_toArray, List.getElem_cons_succ, List.getElem_cons_zero, List.setIfInBounds_toArray, List.set_cons_zero, List.set_cons_succ])
      refine wpGrA_take (i := 29) (.agg (sF sm)) rfl (by kernel_rfl) (by kernel_rfl) (fun _ _ _ h => h) (yG_call (by rfl) (fun w' => by go_simp) (fun w' hb => Ksm.out w')) ?_
      (try simp only [Act.put, List.getElem_toArray, List.getElem_cons_succ, List.getElem_cons_zero, List.setIfInBounds_toArray, List.set_cons_zero, List.set_cons_succ])
      obtain ⟨s12, g12, L12⟩ := CvMul G2.out sm
      have G12 := hid g12
      clear g12
      refine wpGrA_take (i := 30) (.agg (s12)) rfl (by kernel_rfl) (by kernel_rfl) (fun _ _ _ h => h) (yG_call (by rfl) (fun w' => by go_simp) (fun w' hb => L12.out w')) ?_
      (try simp only [Act.put, List.getElem_toArray, List.getElem_cons_succ, List.getElem_cons_zero, List.setIfInBounds_toArray, List.set_cons_zero, List.set_cons_succ])
      refine wpGrA_take (i := 31) (.agg (s2)) rfl (by kernel_rfl) (by kernel_rfl) (fun _ _ _ h => h) (yG_part (by rfl) PT (.tmp 11) rfl p7 0 rfl PT (s2) (s2) (0, 0) _ S25.out.cl.2.2.2.2.1 G2.out.all Try.underlying28 rfl G2.out.info) ?_
      (try simp only [Act.put, List.getElem_toArray, List.getElem_cons_succ, List.getElem_cons_zero, List.setIfInBounds_toArray, List.set_cons_zero, List.set_cons_succ])
      refine wpGrA_take (i := 32) (.agg (sF s)) rfl (by kernel_rfl) (by kernel_rfl) (fun _ _ _ h => h) (yG_part (by rfl) ST (.tmp 12) rfl p10 0 rfl ST (sF s) (sF s) (0, 0) _ S25.out.cl.2.2.2.1 (sF_all _) Try.underlying56 rfl (infoSF _)) ?_
      (try simp only [Act.put, List.getElem_toArray, List.getElem_cons_succ, List.getElem_cons_zero, List.setIfInBounds_toArray, List.set_cons_zero, List.set_cons_succ])
      obtain ⟨s13, g13, L13⟩ := CvMul G2.out s
      have G13 := hid g13
      clear g13
      refine wpGrA_take (i := 33) (.agg (s13)) rfl (by kernel_rfl) (by kernel_rfl) (fun _ _ _ h => h) (yG_call (by rfl) (fun w' => by go_simp) (fun w' hb => L13.out w')) ?_
      (try simp only [Act.put, List.getElem_toArray, List.getElem_cons_succ, List.getElem_cons_zero, List.setIfInBounds_toArray, List.set_cons_zero, List.set_cons_succ])
      refine wpGrA_take (i := 34) (.agg (sF t')) rfl (by kernel_rfl) (by kernel_rfl) (fun _ _ _ h => h) (yG_part (by rfl) ST (.tmp 13) rfl p11 0 rfl ST (sF t') (sF t') (0, 0) _ S25.out.cl.2.2.1 (sF_all _) Try.underlying56 rfl (infoSF _)) ?_
      (try simp only [Act.put, List.getElem_toArray, List.getElem_cons_succ, List.getElem_cons_zero, List.setIfInBounds_toArray, List.set_cons_zero, List.set_cons_succ])
      obtain ⟨s14, g14, L14⟩ := CvMul G13.out t'
      have G14 := hid g14
      clear g14
      refine wpGrA_take (i := 35) (.agg (s14)) rfl (by kernel_rfl) (by kernel_rfl) (fun _ _ _ h => h) (yG_call (by rfl) (fun w' => by go_simp) (fun w' hb => L14.out w')) ?_
      (try simp only [Act.put, List.getElem_toArray, List.getElem_cons_succ, List.getElem_cons_zero, List.setIfInBounds_toArray, List.set_cons_zero, List.set_cons_succ])
      have L15 := CvSameT G12.out G14.out E3.out
      refine wpGrA_take (i := 36) (.bool true) rfl (by kernel_rfl) (by kernel_rfl) (fun _ _ _ h => h) (yG_call (by rfl) (fun w' => by go_simp) (fun w' hb => L15.out w')) ?_
      (try simp only [Act.put, List.getElem_toArray, List.getElem_cons_succ, List.getElem_cons_zero, List.setIfInBounds_toArray, List.set_cons_zero, List.set_cons_succ])
      refine wpGrA_take (i := 37) (.bool false) rfl (by kernel_rfl) (by kernel_rfl) (fun _ _ _ h => h) (yG_val _ (by rfl) (fun w' _ => by (go_simp; try rfl))) ?_
      (try simp only [Act.put, List.getElem_toArray, List.getElem_cons_succ, List.getElem_cons_zero, List.setIfInBounds_toArray, List.set_cons_zero, List.set_cons_succ])
      refine wpGrA_end (by kernel_rfl) ?_
      intro w26 hb
      have S26 := hid (S25.out.on hb)
      clear hb S25
      refine wpLA_here ?_
      refine wpLA_take (.bool false) (yG_val _ (by rfl) (fun w' _ => by (go_simp; try rfl))) ?_
      (try simp only [Act.put, List.getElem_toArray, List.getElem_cons_succ, List.getElem_cons_zero, List.setIfInBounds_toArray, List.set_cons_zero, List.set_cons_succ])
      refine wpLA_end ?_
      intro w27 hb
      have S27 := hid (S26.out.on hb)
      clear hb S26
      have S28 := hid (S27.out.less)
      clear S27
      go_upto_region 18 with fail
      refine wp_region_grA 39 (by kernel_rfl) (by decide) ?_
      refine wpGrA_take (i := 0) (.agg (s2)) rfl (by kernel_rfl) (by kernel_rfl) (fun _ _ _ h => h) (yG_part (by rfl) PT (.tmp 11) rfl p7 0 rfl PT (s2) (s2) (0, 0) _ S28.out.cl.2.2.2.2.1 G2.out.all Try.underlying28 rfl G2.out.info) ?_
      (try simp only [Act.put, List.getElem_toArray, List.getElem_cons_succ, List.getElem_cons_zero, List.setIfInBounds_toArray, List.set_cons_zero, List.set_cons_succ])
      refine wpGrA_take (i := 1) (.agg (sF u)) rfl (by kernel_rfl) (by kernel_rfl) (fun _ _ _ h => h) (yG_part (by rfl) ST (.tmp 14) rfl p16 0 rfl ST (sF u) (sF u) (0, 0) _ S28.out.cl.2.1 (sF_all _) Try.underlying56 rfl (infoSF _)) ?_
      (try simp only [Act.put, List.getElem_toArray, List.getElem_cons_succ, List.getElem_cons_zero, List.setIfInBounds_toArray, List.set_cons_zero, List.set_cons_succ])
      refine wpGrA_take (i := 2) (.agg (sF un)) rfl (by kernel_rfl) (by kernel_rfl) (fun _ _ _ h => h) (yG_call (by rfl) (fun w' => by go_simp) (fun w' hb => Kun.out w')) ?_
      (try simp only [Act.put, List.getElem_toArray, List.getElem_cons_succ, List.getElem_cons_zero, List.setIfInBounds_toArray, List.set_cons_zero, List.set_cons_succ])
      obtain ⟨s16, g16, L16⟩ := CvMul G2.out un
      have G16 := hid g16
      clear g16
      refine wpGrA_take (i := 3) (.agg (s16)) rfl (by kernel_rfl) (by kernel_rfl) (fun _ _ _ h => h) (yG_call (by rfl) (fun w' => by go_simp) (fun w' hb => L16.out w')) ?_
      (try simp only [Act.put, List.getElem_toArray, List.getElem_cons_succ, List.getElem_cons_zero, List.setIfInBounds_toArray, List.set_cons_zero, List.set_cons_succ])
      refine wpGrA_take (i := 4) (.agg (s2)) rfl (by kernel_rfl) (by kernel_rfl) (fun _ _ _ h => h) (yG_part (by rfl) PT (.tmp 11) rfl p7 0 rfl PT (s2) (s2) (0, 0) _ S28.out.cl.2.2.2.2.1 G2.out.all Try.underlying28 rfl G2.out.info) ?_
      (try simp only [Act.put, List.getElem_toArray, List.getElem_cons_succ, List.getElem_cons_zero, List.setIfInBounds_toArray, List.set_cons_zero, List.set_cons_succ])
      obtain ⟨s17, g17, L17⟩ := CvAdd G16.out G2.out
      have G17 := hid g17
      clear g17
      refine wpGrA_take (i := 5) (.agg (s17)) rfl (by kernel_rfl) (by kernel_rfl) (fun _ _ _ h => h) (yG_call (by rfl) (fun w' => by go_simp) (fun w' hb => L17.out w')) ?_
      (try simp only [Act.put, List.getElem_toArray, List.getElem_cons_succ, List.getElem_cons_zero, List.setIfInBounds_toArray, List.set_cons_zero, List.set_cons_succ])
      obtain ⟨s18, g18, L18⟩ := CvNothing
      have G18 := hid g18
      clear g18
      refine wpGrA_take (i := 6) (.agg (s18)) rfl (by kernel_rfl) (by kernel_rfl) (fun _ _ _ h => h) (yG_call (by rfl) (fun w' => by go_simp) (fun w' hb => L18.out w')) ?_
      (try simp only [Act.put, List.getElem_toArray, List.getElem_cons_succ, List.getElem_cons_zero, List.setIfInBounds_toArray, List.set_cons_zero, List.set_cons_succ])
      have L19 := CvSameT G17.out G18.out E4.out
      refine wpGrA_take (i := 7) (.bool true) rfl (by kernel_rfl) (by kernel_rfl) (fun _ _ _ h => h) (yG_call (by rfl) (fun w' => by go_simp) (fun w' hb => L19.out w')) ?_
      (try simp only [Act.put, List.getElem_toArray, List.getElem_cons_succ, List.getElem_cons_zero, List.setIfInBounds_toArray, List.set_cons_zero, List.set_cons_succ])
      refine wpGrA_take (i := 8) (.bool true) rfl (by kernel_rfl) (by kernel_rfl) (fun _ _ _ h => h) (yG_val _ (by rfl) (fun w' _ => by (go_simp; try rfl))) ?_
      (try simp only [Act.put, List.getElem_toArray, List.getElem_cons_succ, List.getElem_cons_zero, List.setIfInBounds_toArray, List.set_cons_zero, List.set_cons_succ])
      refine wpGrA_take (i := 9) (.agg (s2)) rfl (by kernel_rfl) (by kernel_rfl) (fun _ _ _ h => h) (yG_part (by rfl) PT (.tmp 11) rfl p7 0 rfl PT (s2) (s2) (0, 0) _ S28.out.cl.2.2.2.2.1 G2.out.all Try.underlying28 rfl G2.out.info) ?_
      (try simp only [Act.put, List.getElem_toArray, List.getElem_cons_succ, List.getElem_cons_zero, List.setIfInBounds_toArray, List.set_cons_zero, List.set_cons_succ])
      refine wpGrA_take (i := 10) (.agg (sF s)) rfl (by kernel_rfl) (by kernel_rfl) (fun _ _ _ h => h) (yG_part (by rfl) ST (.tmp 12) rfl p10 0 rfl ST (sF s) (sF s) (0, 0) _ S28.out.cl.2.2.2.1 (sF_all _) Try.underlying56 rfl (infoSF _)) ?_
      (try simp only [Act.put, List.getElem_toArray, List.getElem_cons_succ, List.getElem_cons_zero, List.setIfInBounds_toArray, List.set_cons_zero, List.set_cons_succ])
      refine wpGrA_take (i := 11) (.agg (sF sn)) rfl (by kernel_rfl) (by kernel_rfl) (fun _ _ _ h => h) (yG_call (by rfl) (fun w' => by go_simp) (fun w' hb => Ksn.out w')) ?_
      (try simp only [Act.put, List.getElem_toArray, List.getElem_cons_succ, List.getElem_cons_zero, List.setIfInBounds_toArray, List.set_cons_zero, List.set_cons_succ])
      obtain ⟨s20, g20, L20⟩ := CvMul G2.out sn
      have G20 := hid g20
      clear g20
      refine wpGrA_take (i := 12) (.agg (s20)) rfl (by kernel_rfl) (by kernel_rfl) (fun _ _ _ h => h) (yG_call (by rfl) (fun w' => by go_simp) (fun w' hb => L20.out w')) ?_
      (try simp only [Act.put, List.getElem_toArray, List.getElem_cons_succ, List.getElem_cons_zero, List.setIfInBounds_toArray, List.set_cons_zero, List.set_cons_succ])
      refine wpGrA_take (i := 13) (.agg (s2)) rfl (by kernel_rfl) (by kernel_rfl) (fun _ _ _ h => h) (yG_part (by rfl) PT (.tmp 11) rfl p7 0 rfl PT (s2) (s2) (0, 0) _ S28.out.cl.2.2.2.2.1 G2.out.all Try.underlying28 rfl G2.out.info) ?_
      (try simp only [Act.put, List.getElem_toArray, List.getElem_cons_succ, List.getElem_cons_zero, List.setIfInBounds_toArray, List.set_cons_zero, List.set_cons_succ])
      refine wpGrA_take (i := 14) (.agg (sF s)) rfl (by kernel_rfl) (by kernel_rfl) (fun _ _ _ h => h) (yG_part (by rfl) ST (.tmp 12) rfl p10 0 rfl ST (sF s) (sF s) (0, 0) _ S28.out.cl.2.2.2.1 (sF_all _) Try.underlying56 rfl (infoSF _)) ?_
      (try simp only [Act.put, List.getElem_toArray, List.getElem_cons_succ, List.getElem_cons_zero, List.setIfInBounds_toArray, List.set_cons_zero, List.set_cons_succ])
      obtain ⟨s21, g21, L21⟩ := CvMul G2.out s
      have G21 := hid g21
      clear g21
      refine wpGrA_take (i := 15) (.agg (s21)) rfl (by kernel_rfl) (by kernel_rfl) (fun _ _ _ h => h) (yG_call (by rfl) (fun w' => by go_simp) (fun w' hb => L21.out w')) ?_
      (try simp only [Act.put, List.getElem_toArray, List.getElem_cons_succ, List.getElem_cons_zero, List.setIfInBounds_toArray, List.set_cons_zero, List.set_cons_succ])
      obtain ⟨s22, g22, L22⟩ := CvNeg G21.out
      have G22 := hid g22
      clear g22
      refine wpGrA_take (i := 16) (.agg (s22)) rfl (by kernel_rfl) (by kernel_rfl) (fun _ _ _ h => h) (yG_call (by rfl) (fun w' => by go_simp) (fun w' hb => L22.out w')) ?_
      (try simp only [Act.put, List.getElem_toArray, List.getElem_cons_succ, List.getElem_cons_zero, List.setIfInBounds_toArray, List.set_cons_zero, List.set_cons_succ])
      have L23 := CvSameT G20.out G22.out E5.out
      refine wpGrA_take (i := 17) (.bool true) rfl (by kernel_rfl) (by kernel_rfl) (fun _ _ _ h => h) (yG_call (by rfl) (fun w' => by go_simp) (fun w' hb => L23.out w')) ?_
      (try simp only [Act.put, List.getElem_toArray, List.getElem_cons_succ, List.getElem_cons_zero, List.setIfInBounds_toArray, List.set_cons_zero, List.set_cons_succ])
      refine wpGrA_take (i := 18) (.bool true) rfl (by kernel_rfl) (by kernel_rfl) (fun _ _ _ h => h) (yG_val _ (by rfl) (fun w' _ => by (go_simp; try rfl))) ?_
      (try simp only [Act.put, List.getElem_toArray, List.getElem_cons_succ, List.getElem_cons_zero, List.setIfInBounds_toArray, List.set_cons_zero, List.set_cons_succ])
      refine wpGrA_take (i := 19) (.bool true) rfl (by kernel_rfl) (by kernel_rfl) (fun _ _ _ h => h) (yG_val _ (by rfl) (fun w' _ => by (go_simp; try rfl))) ?_
      (try simp only [Act.put, List.getElem_toArray, List.getElem_cons_succ, List.getElem_cons_zero, List.setIfInBounds_toArray, List.set_cons_zero, List.set_cons_succ])
      refine wpGrA_take (i := 20) (.agg (c6)) rfl (by kernel_rfl) (by kernel_rfl) (fun _ _ _ h => h) (yG_part (by rfl) PT (.tmp 9) rfl p1 0 rfl PT (c6) (c6) (0, 0) _ S28.out.cl.2.2.2.2.2.1 HV6.out.all Try.underlying28 rfl HV6.out.info) ?_
      (try simp only [Act.put, List.getElem_toArray, List.getElem_cons_succ, List.getElem_cons_zero, List.setIfInBounds_toArray, List.set_cons_zero, List.set_cons_succ])
      refine wpGrA_take (i := 21) (.agg (sF 0)) rfl (by kernel_rfl) (by kernel_rfl) (fun _ _ _ h => h) (yG_build (by rfl) ST _ rfl [] rfl _ builtS0) ?_
      (try simp only [Act.put, List.getElem_toArray, List.getElem_cons_succ, List.getElem_cons_zero, List.setIfInBounds_toArray, List.set_cons_zero, List.set_cons_succ])
      obtain ⟨s24, g24, L24⟩ := CvMul HV6.out (0 : SF)
      have G24 := hid g24
      clear g24
      refine wpGrA_take (i := 22) (.agg (s24)) rfl (by kernel_rfl) (by kernel_rfl) (fun _ _ _ h => h) (yG_call (by rfl) (fun w' => by go_simp) (fun w' hb => L24.out w')) ?_
      (try simp only [Act.put, List.getElem_toArray, List.getElem_cons_succ, List.getElem_cons_zero, List.setIfInBounds_toArray, List.set_cons_zero, List.set_cons_succ])
      refine wpGrA_take (i := 23) (.agg (zP)) rfl (by kernel_rfl) (by kernel_rfl) (fun _ _ _ h => h) (yG_build (by rfl) PT _ rfl [] rfl _ builtP) ?_
      (try simp only [Act.put, List.getElem_toArray, List.getElem_cons_succ, List.getElem_cons_zero, List.setIfInBounds_toArray, List.set_cons_zero, List.set_cons_succ])
      have L25 := CvSameT G24.out zP_is rfl
      refine wpGrA_take (i := 24) (.bool true) rfl (by kernel_rfl) (by kernel_rfl) (fun _ _ _ h => h) (yG_call (by rfl) (fun w' => by go_simp) (fun w' hb => L25.out w')) ?_
      (try simp only [Act.put, List.getElem_toArray, List.getElem_cons_succ, List.getElem_cons_zero, List.setIfInBounds_toArray, List.set_cons_zero, List.set_cons_succ])
      refine wpGrA_take (i := 25) (.bool true) rfl (by kernel_rfl) (by kernel_rfl) (fun _ _ _ h => h) (yG_val _ (by rfl) (fun w' _ => by (go_simp; try rfl))) ?_
      (try simp only [Act.put, List.getElem_toArray, List.getElem_cons_succ, List.getElem_cons_zero, List.setIfInBounds_toArray, List.set_cons_zero, List.set_cons_succ])
      refine wpGrA_take (i := 26) (.bool true) rfl (by kernel_rfl) (by kernel_rfl) (fun _ _ _ h => h) (yG_val _ (by rfl) (fun w' _ => by (go_simp; try rfl))) ?_
      (try simp only [Act.put, List.getElem_toArray, List.getElem_cons_succ, List.getElem_cons_zero, List.setIfInBounds_toArray, List.set_cons_zero, List.set_cons_succ])
      refine wpGrA_take (i := 27) (.agg (c6)) rfl (by kernel_rfl) (by kernel_rfl) (fun _ _ _ h => h) (yG_part (by rfl) PT (.tmp 9) rfl p1 0 rfl PT (c6) (c6) (0, 0) _ S28.out.cl.2.2.2.2.2.1 HV6.out.all Try.underlying28 rfl HV6.out.info) ?_
      (try simp only [Act.put, List.getElem_toArray, List.getElem_cons_succ, List.getElem_cons_zero, List.setIfInBounds_toArray, List.set_cons_zero, List.set_cons_succ])
      refine wpGrA_take (i := 28) (.agg (sF u)) rfl (by kernel_rfl) (by kernel_rfl) (fun _ _ _ h => h) (yG_part (by rfl) ST (.tmp 14) rfl p16 0 rfl ST (sF u) (sF u) (0, 0) _ S28.out.cl.2.1 (sF_all _) Try.underlying56 rfl (infoSF _)) ?_
      (try simp only [Act.put, List.getElem_toArray, List.getElem_cons_succ, List.getElem_cons_zero, List.setIfInBounds_toArray, List.set_cons_zero, List.set_cons_succ])
      obtain ⟨s26, g26, L26⟩ := CvMul HV6.out u
      have G26 := hid g26
      clear g26
      refine wpGrA_take (i := 29) (.agg (s26)) rfl (by kernel_rfl) (by kernel_rfl) (fun _ _ _ h => h) (yG_call (by rfl) (fun w' => by go_simp) (fun w' hb => L26.out w')) ?_
      (try simp only [Act.put, List.getElem_toArray, List.getElem_cons_succ, List.getElem_cons_zero, List.setIfInBounds_toArray, List.set_cons_zero, List.set_cons_succ])
      refine wpGrA_take (i := 30) (.agg (c6)) rfl (by kernel_rfl) (by kernel_rfl) (fun _ _ _ h => h) (yG_part (by rfl) PT (.tmp 9) rfl p1 0 rfl PT (c6) (c6) (0, 0) _ S28.out.cl.2.2.2.2.2.1 HV6.out.all Try.underlying28 rfl HV6.out.info) ?_
      (try simp only [Act.put, List.getElem_toArray, List.getElem_cons_succ, List.getElem_cons_zero, List.setIfInBounds_toArray, List.set_cons_zero, List.set_cons_succ])
      have L27 := CvSameT G26.out HV6.out (by rw [E6.out]; exact mul_one_s HV6.out.on)
      refine wpGrA_take (i := 31) (.bool true) rfl (by kernel_rfl) (by kernel_rfl) (fun _ _ _ h => h) (yG_call (by rfl) (fun w' => by go_simp) (fun w' hb => L27.out w')) ?_
      (try simp only [Act.put, List.getElem_toArray, List.getElem_cons_succ, List.getElem_cons_zero, List.setIfInBounds_toArray, List.set_cons_zero, List.set_cons_succ])
      refine wpGrA_take (i := 32) (.bool true) rfl (by kernel_rfl) (by kernel_rfl) (fun _ _ _ h => h) (yG_val _ (by rfl) (fun w' _ => by (go_simp; try rfl))) ?_
      (try simp only [Act.put, List.getElem_toArray, List.getElem_cons_succ, List.getElem_cons_zero, List.setIfInBounds_toArray, List.set_cons_zero, List.set_cons_succ])
      refine wpGrA_take (i := 33) (.bool true) rfl (by kernel_rfl) (by kernel_rfl) (fun _ _ _ h => h) (yG_val _ (by rfl) (fun w' _ => by (go_simp; try rfl))) ?_
      (try simp only [Act.put, List.getElem_toArray, List.getElem_cons_succ, List.getElem_cons_zero, List.setIfInBounds_toArray, List.set_cons_zero, List.set_cons_succ])
      refine wpGrA_take (i := 34) (.agg (s2)) rfl (by kernel_rfl) (by kernel_rfl) (fun _ _ _ h => h) (yG_part (by rfl) PT (.tmp 11) rfl p7 0 rfl PT (s2) (s2) (0, 0) _ S28.out.cl.2.2.2.2.1 G2.out.all Try.underlying28 rfl G2.out.info) ?_
      (try simp only [Act.put, List.getElem_toArray, List.getElem_cons_succ, List.getElem_cons_zero, List.setIfInBounds_toArray, List.set_cons_zero, List.set_cons_succ])
      refine wpGrA_take (i := 35) (.agg (sF s)) rfl (by kernel_rfl) (by kernel_rfl) (fun _ _ _ h => h) (yG_part (by rfl) ST (.tmp 12) rfl p10 0 rfl ST (sF s) (sF s) (0, 0) _ S28.out.cl.2.2.2.1 (sF_all _) Try.underlying56 rfl (infoSF _)) ?_
      (try simp only [Act.put, List.getElem_toArray, List.getElem_cons_succ, List.getElem_cons_zero, List.setIfInBounds_toArray, List.set_cons_zero, List.set_cons_succ])
      obtain ⟨s28, g28, L28⟩ := CvMul G2.out s
      have G28 := hid g28
      clear g28
      refine wpGrA_take (i := 36) (.agg (s28)) rfl (by kernel_rfl) (by kernel_rfl) (fun _ _ _ h => h) (yG_call (by rfl) (fun w' => by go_simp) (fun w' hb => L28.out w')) ?_
      (try simp only [Act.put, List.getElem_toArray, List.getElem_cons_succ, List.getElem_cons_zero, List.setIfInBounds_toArray, List.set_cons_zero, List.set_cons_succ])
      have L29 := CvRight G28.out
      refine wpGrA_take (i := 37) (.bool true) rfl (by kernel_rfl) (by kernel_rfl) (fun _ _ _ h => h) (yG_call (by rfl) (fun w' => by go_simp) (fun w' hb => L29.out w')) ?_
      (try simp only [Act.put, List.getElem_toArray, List.getElem_cons_succ, List.getElem_cons_zero, List.setIfInBounds_toArray, List.set_cons_zero, List.set_cons_succ])
      refine wpGrA_take (i := 38) (.bool true) rfl (by kernel_rfl) (by kernel_rfl) (fun _ _ _ h => h) (yG_val _ (by rfl) (fun w' _ => by (go_simp; try rfl))) ?_
      (try simp only [Act.put, List.getElem_toArray, List.getElem_cons_succ, List.getElem_cons_zero, List.setIfInBounds_toArray, List.set_cons_zero, List.set_cons_succ])
      refine wpGrA_end (by kernel_rfl) ?_
      intro w29 hb
      have S29 := hid (S28.out.on hb)
      clear hb S28
      refine wpLA_here ?_
      refine wpLA_take (.bool true) (yG_val _ (by rfl) (fun w' _ => by (go_simp; try rfl))) ?_
      (try simp only [Act.put, List.getElem_toArray, List.getElem_cons_succ, List.getElem_cons_zero, List.setIfInBounds_toArray, List.set_cons_zero, List.set_cons_succ])
      refine wpLA_end ?_
      intro w30 hb
      have S30 := hid (S29.out.on hb)
      clear hb S29
      go_wp2_with fail
      go_ret
      exact ⟨rfl, S30.out.below⟩
end Go.Proofs.Ytealegfmmeklcaa
