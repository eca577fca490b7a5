/-
  Package curve: a point so many times.
-/
import Derived.Test.YtealegfmmeklcaaCuC
import Derived.Test.YtealegfmmeklcaaCvX
import Derived.Test.YtealegfmmeklcaaScF
import Derived.Test.YtealegfmmeklcaaScB
import Derived.Test.YtealegfmmeklcaaGoto
namespace Go.Proofs.Ytealegfmmeklcaa
open Go Go.RowKit
set_option linter.unusedVariables false
set_option linter.unusedSimpArgs false

theorem tm_even {p : Pt} (hp : p.on) (k : Nat) : Pt.times (2 * k + 0) p = ((Pt.times k p).add (Pt.times k p)).add Pt.zero := by
  rw [Nat.add_zero, Nat.two_mul, Pt.times_add hp, Pt.add_zero (Pt.add_on (Pt.times_on hp _) (Pt.times_on hp _))]
theorem tm_odd {p : Pt} (hp : p.on) (k : Nat) : Pt.times (2 * k + 1) p = ((Pt.times k p).add (Pt.times k p)).add p := by
  show (Pt.times (2 * k) p).add p = _
  rw [Nat.two_mul, Pt.times_add hp]
theorem bitE (n : SF) (m : Nat) (hm : m ≤ 252) {t : Nat} (ht : t = n.val / 2 ^ m % 2) : Hid (∀ W : World, Calls Try.prog 88 #[.agg (sF n), .int .i64 (m : Int)] W fun e w' => e = .returned (.int .i64 (t : Int)) ∧ Below W.heap.size W w') := hid fun W => by
  have h := Bit_s n.val (m : Int) W (by have := n.isLt; omega) (by omega) (by omega)
  rw [if_pos (by omega), show ((m : Int)).toNat = m from rfl, ← ht] at h
  exact h
set_option maxRecDepth 100000 in
set_option maxHeartbeats 4000000 in
theorem productC' {x a : FF} {p : Pt} (hp : p.on) (hx : x = p.x) (ha : a = p.y - 1) (n : SF) (w : World) : Calls Try.prog 70 #[.agg (cP x a), .agg (sF n)] w fun e w' => ∃ X Y Z T, e = .returned (.agg (cR X Y Z T)) ∧ Ex4 X Y Z T (Pt.times n.val p) ∧ Below w.heap.size w w' := by
  have hy : p.y = a + 1 := by rw [ha]; generalize p.y = b; grobner
  obtain ⟨l0, hl0⟩ : ∃ v : FF, v = Pt.zero.y - Pt.zero.x := ⟨_, rfl⟩
  obtain ⟨m0, hm0⟩ : ∃ v : FF, v = Pt.zero.y + Pt.zero.x := ⟨_, rfl⟩
  obtain ⟨q0, hq0⟩ : ∃ v : FF, v = (dd + dd) * Pt.zero.x * Pt.zero.y := ⟨_, rfl⟩
  obtain ⟨l1, hl1⟩ : ∃ v : FF, v = p.y - p.x := ⟨_, rfl⟩
  obtain ⟨m1, hm1⟩ : ∃ v : FF, v = p.y + p.x := ⟨_, rfl⟩
  obtain ⟨q1, hq1⟩ : ∃ v : FF, v = (dd + dd) * p.x * p.y := ⟨_, rfl⟩
  have KZ := addendC (x := 0) (a := 0) (y := 1) (by decide +kernel) (l := l0) (m := m0) (p := q0) hl0 hm0 hq0
  have KP := addendC (x := x) (a := a) (y := p.y) hy (l := l1) (m := m1) (p := q1) (by rw [hl1, hx]) (by rw [hm1, hx]) (by rw [hq1, hx])
  have KR := ratiosC (x := 0) (a := 0) (y := 1) (t := 0) (by decide +kernel) (by decide +kernel)
  have HA0 := hid (show l0 = Pt.zero.y - Pt.zero.x ∧ m0 = Pt.zero.y + Pt.zero.x ∧ q0 = (dd + dd) * Pt.zero.x * Pt.zero.y from ⟨hl0, hm0, hq0⟩)
  have HA1 := hid (show l1 = p.y - p.x ∧ m1 = p.y + p.x ∧ q1 = (dd + dd) * p.x * p.y from ⟨hl1, hm1, hq1⟩)
  have HE0 : Hid (Ex4 0 1 1 0 (Pt.times (n.val / 2 ^ 253) p)) := hid (by
    rw [Nat.div_eq_of_lt (Nat.lt_trans n.isLt (by decide +kernel))]
    exact ex_zero)
  have HP := hid hp
  clear hl0 hm0 hq0 hl1 hm1 hq1 hy hx ha hp
  go_enter Try.func70, Try.ntmps70
  have S0 : Hid (St w w [] []) := hid (St.start w)
  go_upto_region 0 with fail
  refine wpLA_start ?_
  refine wpLA_box (cP x a) (by rfl) rfl rfl ?_
  intro p1 w1 hp hz hb
  have S1 : Hid (St w w1 [(p1, cP x a, PT)] []) := hid (S0.out.alloc hb hp hz)
  clear hp hz hb S0
  (try simp only [Act.put, List.getElem_toArray, List.getElem_cons_succ, List.getElem_cons_zero, List.setIfInBounds_toArray, List.set_cons_zero, List.set_cons_succ])
  refine wpLA_box (sF n) (by rfl) rfl rfl ?_
  intro p2 w2 hp hz hb
  have S2 : Hid (St w w2 [(p2, sF n, ST), (p1, cP x a, PT)] []) := hid (S1.out.alloc hb hp hz)
  clear hp hz hb S1
  (try simp only [Act.put, List.getElem_toArray, List.getElem_cons_succ, List.getElem_cons_zero, List.setIfInBounds_toArray, List.set_cons_zero, List.set_cons_succ])
  refine wpLA_alloc (by rfl) rfl zeroRc ?_
  intro p3 w3 hp hz hb
  have S3 : Hid (St w w3 [(p3, cR 0 0 0 0, RT), (p2, sF n, ST), (p1, cP x a, PT)] []) := hid (S2.out.alloc hb hp hz)
  clear hp hz hb S2
  (try simp only [Act.put, List.getElem_toArray, List.getElem_cons_succ, List.getElem_cons_zero, List.setIfInBounds_toArray, List.set_cons_zero, List.set_cons_succ])
  refine wpLA_end ?_
  intro w4 hb
  have S4 := hid (S3.out.on hb)
  clear hb S3
  go_wp2_with fail
  refine wp_scope_at' 0 (fun a' w' => ∃ (m p2 p3 p4 p5 p6 : Nat) (X Y Z T : FF) (u8 u9 u10 u11 u12 u13 u14 u15 u16 u17 u18 u19 u20 u21 u22 u23 u24 u25 u26 u27 : Value), a' = { tmps := (.agg (cP x a) :: .agg (sF n) :: .pointer (some ⟨p2, 0, none⟩) :: .pointer (some ⟨p3, 0, none⟩) :: .pointer (some ⟨p4, 0, none⟩) :: .pointer (some ⟨p5, 0, none⟩) :: .pointer (some ⟨p6, 0, none⟩) :: .int .i64 ((m : Nat) : Int) :: u8 :: u9 :: u10 :: u11 :: u12 :: u13 :: u14 :: u15 :: u16 :: u17 :: u18 :: u19 :: u20 :: u21 :: u22 :: u23 :: u24 :: u25 :: u26 :: u27 :: []).toArray, defers := [] } ∧ m ≤ 253 ∧ Ex4 X Y Z T (Pt.times (n.val / 2 ^ m) p) ∧ St w w' [(p6, cR X Y Z T, RT), (p5, cT l0 m0 q0 l1 m1 q1, TT), (p4, cR 0 0 0 0, RT), (p3, sF n, ST), (p2, cP x a, PT)] []) (fun a' _ => (intOf (a'.tmps.getD 7 undef)).toNat) rfl ?_ ?_
  · intro Qj hQr hQp hJ
    go_upto_region 1 with fail
    refine wp_region_grA 6 (by kernel_rfl) (by decide) ?_
    refine wpGrA_take (i := 0) (.agg (cP 0 0)) rfl (by kernel_rfl) (by kernel_rfl) (fun c a2 w2 h => by have h2 := (hQp c _ _).1 h; exact (hQp c a2 w2).2 h2) (yG_call (by rfl) (fun w' => by go_simp) (fun w' hb => nothingC.out w')) ?_
    (try simp only [Act.put, List.getElem_toArray, List.getElem_cons_succ, List.getElem_cons_zero, List.setIfInBounds_toArray, List.set_cons_zero, List.set_cons_succ])
    refine wpGrA_take (i := 1) (.agg (cA l0 m0 q0)) rfl (by kernel_rfl) (by kernel_rfl) (fun c a2 w2 h => by have h2 := (hQp c _ _).1 h; exact (hQp c a2 w2).2 h2) (yG_call (by rfl) (fun w' => by go_simp) (fun w' hb => KZ.out w')) ?_
    (try simp only [Act.put, List.getElem_toArray, List.getElem_cons_succ, List.getElem_cons_zero, List.setIfInBounds_toArray, List.set_cons_zero, List.set_cons_succ])
    refine wpGrA_take (i := 2) (.agg (cP x a)) rfl (by kernel_rfl) (by kernel_rfl) (fun c a2 w2 h => by have h2 := (hQp c _ _).1 h; exact (hQp c a2 w2).2 h2) (yG_part (by rfl) PT (.tmp 2) rfl p1 0 rfl PT (cP x a) (cP x a) (0, 0) _ S4.out.cl.2.2.1 (cP_all x a) Try.underlying28 rfl (infoPc x a)) ?_
    (try simp only [Act.put, List.getElem_toArray, List.getElem_cons_succ, List.getElem_cons_zero, List.setIfInBounds_toArray, List.set_cons_zero, List.set_cons_succ])
    refine wpGrA_take (i := 3) (.agg (cA l1 m1 q1)) rfl (by kernel_rfl) (by kernel_rfl) (fun c a2 w2 h => by have h2 := (hQp c _ _).1 h; exact (hQp c a2 w2).2 h2) (yG_call (by rfl) (fun w' => by go_simp) (fun w' hb => KP.out w')) ?_
    (try simp only [Act.put, List.getElem_toArray, List.getElem_cons_succ, List.getElem_cons_zero, List.setIfInBounds_toArray, List.set_cons_zero, List.set_cons_succ])
    refine wpGrA_take (i := 4) (.agg (cT l0 m0 q0 l1 m1 q1)) rfl (by kernel_rfl) (by kernel_rfl) (fun c a2 w2 h => by have h2 := (hQp c _ _).1 h; exact (hQp c a2 w2).2 h2) (yG_build (by rfl) TT _ rfl [(0, (.agg (cA l0 m0 q0))), (1, (.agg (cA l1 m1 q1)))] rfl _ (builtTc l0 m0 q0 l1 m1 q1)) ?_
    (try simp only [Act.put, List.getElem_toArray, List.getElem_cons_succ, List.getElem_cons_zero, List.setIfInBounds_toArray, List.set_cons_zero, List.set_cons_succ])
    refine wpGrA_alloc (i := 5) rfl rfl rfl zeroTc (by kernel_rfl) ?_
    intro p5_0 w5 hp hz hb
    have S5 : Hid (St w w5 [(p5_0, cT 0 0 0 0 0 0, TT), (p3, cR 0 0 0 0, RT), (p2, sF n, ST), (p1, cP x a, PT)] []) := hid (S4.out.alloc hb hp hz)
    clear hb hp hz S4
    (try simp only [Act.put, List.getElem_toArray, List.getElem_cons_succ, List.getElem_cons_zero, List.setIfInBounds_toArray, List.set_cons_zero, List.set_cons_succ])
    refine wpLA_here ?_
    refine wpLA_store rfl TT (.tmp 5) (.tmp 12) rfl p5_0 (cT l0 m0 q0 l1 m1 q1) rfl rfl TT (cT 0 0 0 0 0 0) S5.out.cl.1 (infoT l0 m0 q0 l1 m1 q1) ((cT_size 0 0 0 0 0 0).trans (cT_size l0 m0 q0 l1 m1 q1).symm) (cT_one l0 m0 q0 l1 m1 q1) ?_
    intro wx hb
    have S6 : Hid (St w (wx.setRow p5_0 (cT l0 m0 q0 l1 m1 q1)) [(p5_0, cT l0 m0 q0 l1 m1 q1, TT), (p3, cR 0 0 0 0, RT), (p2, sF n, ST), (p1, cP x a, PT)] []) := hid ((S5.out.on hb).put0 0 rfl)
    clear hb S5
    generalize wx.setRow p5_0 (cT l0 m0 q0 l1 m1 q1) = w6 at S6 ⊢
    (try simp only [Act.put, List.getElem_toArray, List.getElem_cons_succ, List.getElem_cons_zero, List.setIfInBounds_toArray, List.set_cons_zero, List.set_cons_succ])
    refine wpLA_end ?_
    intro w7 hb
    have S7 := hid (S6.out.on hb)
    clear hb S6
    go_upto_region 2 with fail
    refine wpLA_start ?_
    refine wpLA_take (.agg (cP 0 0)) (yG_call (by rfl) (fun w' => by go_simp) (fun w' hb => nothingC.out w')) ?_
    (try simp only [Act.put, List.getElem_toArray, List.getElem_cons_succ, List.getElem_cons_zero, List.setIfInBounds_toArray, List.set_cons_zero, List.set_cons_succ])
    refine wpLA_take (.agg (cR 0 1 1 0)) (yG_call (by rfl) (fun w' => by go_simp) (fun w' hb => KR.out w')) ?_
    (try simp only [Act.put, List.getElem_toArray, List.getElem_cons_succ, List.getElem_cons_zero, List.setIfInBounds_toArray, List.set_cons_zero, List.set_cons_succ])
    refine wpLA_alloc (by rfl) rfl zeroRc ?_
    intro p8 w8 hp hz hb
    have S8 : Hid (St w w8 [(p8, cR 0 0 0 0, RT), (p5_0, cT l0 m0 q0 l1 m1 q1, TT), (p3, cR 0 0 0 0, RT), (p2, sF n, ST), (p1, cP x a, PT)] []) := hid (S7.out.alloc hb hp hz)
    clear hp hz hb S7
    (try simp only [Act.put, List.getElem_toArray, List.getElem_cons_succ, List.getElem_cons_zero, List.setIfInBounds_toArray, List.set_cons_zero, List.set_cons_succ])
    refine wpLA_store rfl RT (.tmp 6) (.tmp 14) rfl p8 (cR 0 1 1 0) rfl rfl RT (cR 0 0 0 0) S8.out.cl.1 (infoR 0 1 1 0) ((cR_size 0 0 0 0).trans (cR_size 0 1 1 0).symm) (cR_one 0 1 1 0) ?_
    intro wx hb
    have S9 : Hid (St w (wx.setRow p8 (cR 0 1 1 0)) [(p8, cR 0 1 1 0, RT), (p5_0, cT l0 m0 q0 l1 m1 q1, TT), (p3, cR 0 0 0 0, RT), (p2, sF n, ST), (p1, cP x a, PT)] []) := hid ((S8.out.on hb).put0 0 rfl)
    clear hb S8
    generalize wx.setRow p8 (cR 0 1 1 0) = w9 at S9 ⊢
    (try simp only [Act.put, List.getElem_toArray, List.getElem_cons_succ, List.getElem_cons_zero, List.setIfInBounds_toArray, List.set_cons_zero, List.set_cons_succ])
    refine wpLA_end ?_
    intro w10 hb
    have S10 := hid (S9.out.on hb)
    clear hb S9
    go_wp2_with fail
    refine wp_label ?_
    rename_i K hK
    refine hK _ _ (hJ _ _ ⟨253, p1, p2, p3, p5_0, p8, 0, 1, 1, 0, _, _, _, _, _, _, _, _, _, _, _, _, _, _, _, _, _, _, _, _, rfl, Nat.le_refl _, HE0.out, S10.out⟩)
  · rintro a' w' ⟨m, p2, p3, p4, p5, p6, X, Y, Z, T, u8, u9, u10, u11, u12, u13, u14, u15, u16, u17, u18, u19, u20, u21, u22, u23, u24, u25, u26, u27, rfl, hm, hX, hS⟩
    have HS := hid hS; have HX := hid hX
    clear hS hX KZ KP KR HE0
    rcases m with _ | m
    · rw [Nat.pow_zero, Nat.div_one] at HX
      clear HA0 HA1 HP hm
      go_upto_region 4 with fail
      refine wpLA_start ?_
      refine wpLA_take (.int .i64 (((0 : Nat) : Int))) (yG_val _ (by rfl) (fun w' _ => by (go_simp; try rfl))) ?_
      (try simp only [Act.put, List.getElem_toArray, List.getElem_cons_succ, List.getElem_cons_zero, List.setIfInBounds_toArray, List.set_cons_zero, List.set_cons_succ])
      refine wpLA_take (.bool true) (yG_val _ (by rfl) (fun w' _ => by (go_simp; try rfl))) ?_
      (try simp only [Act.put, List.getElem_toArray, List.getElem_cons_succ, List.getElem_cons_zero, List.setIfInBounds_toArray, List.set_cons_zero, List.set_cons_succ])
      refine wpLA_end ?_
      intro w101 hb
      have S101 := hid (HS.out.on hb)
      clear hb HS
      go_upto_region 5 with fail
      refine wpLA_start ?_
      refine wpLA_take (.agg (cR X Y Z T)) (yG_part (by rfl) RT (.tmp 6) rfl p6 0 rfl RT (cR X Y Z T) (cR X Y Z T) (0, 0) _ S101.out.cl.1 (cR_all X Y Z T) Try.underlying74 rfl (infoR X Y Z T)) ?_
      (try simp only [Act.put, List.getElem_toArray, List.getElem_cons_succ, List.getElem_cons_zero, List.setIfInBounds_toArray, List.set_cons_zero, List.set_cons_succ])
      refine wpLA_store rfl RT (.tmp 4) (.tmp 17) rfl p4 (cR X Y Z T) rfl rfl RT (cR 0 0 0 0) S101.out.cl.2.2.1 (infoR X Y Z T) ((cR_size 0 0 0 0).trans (cR_size X Y Z T).symm) (cR_one X Y Z T) ?_
      intro wx hb
      have S102 : Hid (St w (wx.setRow p4 (cR X Y Z T)) [(p6, cR X Y Z T, RT), (p5, cT l0 m0 q0 l1 m1 q1, TT), (p4, cR X Y Z T, RT), (p3, sF n, ST), (p2, cP x a, PT)] []) := hid ((S101.out.on hb).put0 2 rfl)
      clear hb S101
      generalize wx.setRow p4 (cR X Y Z T) = w102 at S102 ⊢
      (try simp only [Act.put, List.getElem_toArray, List.getElem_cons_succ, List.getElem_cons_zero, List.setIfInBounds_toArray, List.set_cons_zero, List.set_cons_succ])
      refine wpLA_end ?_
      intro w103 hb
      have S103 := hid (S102.out.on hb)
      clear hb S102
      go_wp2_with fail
      simp only [Exit.jump]
      exact bodyPost_ret (v := .agg (cR X Y Z T)) (results_cell_row rfl _ _ p4 RT _ (0, 0) _ rfl S103.out.cl.2.2.1 Try.underlying74 rfl (infoR X Y Z T)) rfl ⟨X, Y, Z, T, rfl, HX.out, S103.out.below⟩
    · have HM := hid hm
      have hp := HP.out
      have hst := half_step n.val m
      obtain ⟨t, ht⟩ : ∃ t, t = n.val / 2 ^ m % 2 := ⟨_, rfl⟩
      have ht2 : t < 2 := by omega
      rw [← ht] at hst
      have HN1 : Hid ((((m + 1 : Nat) : Int) == 0) = false) := hid (by rw [beq_eq_false_iff_ne]; omega)
      have HN2 : Hid (IntKind.i64.wrap (m : Int) = (m : Int)) := hid (IntWalk.i64_in _ (by omega))
      clear hm
      obtain ⟨B_, hB_⟩ : ∃ v : FF, v = Y * Y := ⟨_, rfl⟩
      obtain ⟨A_, hA_⟩ : ∃ v : FF, v = X * X := ⟨_, rfl⟩
      obtain ⟨C_, hC_⟩ : ∃ v : FF, v = Z * Z := ⟨_, rfl⟩
      obtain ⟨S_, hS_⟩ : ∃ v : FF, v = B_ + A_ := ⟨_, rfl⟩
      obtain ⟨D_, hD_⟩ : ∃ v : FF, v = B_ - A_ := ⟨_, rfl⟩
      obtain ⟨X2, hX2⟩ : ∃ v : FF, v = ((X + Y) * (X + Y) - S_) * (C_ + C_ - D_) := ⟨_, rfl⟩
      obtain ⟨Y2, hY2⟩ : ∃ v : FF, v = S_ * D_ := ⟨_, rfl⟩
      obtain ⟨Z2, hZ2⟩ : ∃ v : FF, v = D_ * (C_ + C_ - D_) := ⟨_, rfl⟩
      obtain ⟨T2, hT2⟩ : ∃ v : FF, v = ((X + Y) * (X + Y) - S_) * S_ := ⟨_, rfl⟩
      have KT := twiceC (X := X) (Y := Y) (Z := Z) (T := T) hA_ hB_ hC_ hS_ hD_ hX2 hY2 hZ2 hT2
      have E2 := ex_twice HX.out (Pt.times_on hp _) hA_ hB_ hC_ hS_ hD_ hX2 hY2 hZ2 hT2
      clear hA_ hB_ hC_ hS_ hD_ hX2 hY2 hZ2 hT2 HX
      rcases (by omega : t = 0 ∨ t = 1) with rfl | rfl
      · have ht0 := ht
        obtain ⟨A_, hA_⟩ : ∃ v : FF, v = (Y2 - X2) * l0 := ⟨_, rfl⟩
        obtain ⟨B_, hB_⟩ : ∃ v : FF, v = (Y2 + X2) * m0 := ⟨_, rfl⟩
        obtain ⟨D_, hD_⟩ : ∃ v : FF, v = Z2 + Z2 := ⟨_, rfl⟩
        obtain ⟨C_, hC_⟩ : ∃ v : FF, v = T2 * q0 := ⟨_, rfl⟩
        obtain ⟨X3, hX3⟩ : ∃ v : FF, v = (B_ - A_) * (D_ - C_) := ⟨_, rfl⟩
        obtain ⟨Y3, hY3⟩ : ∃ v : FF, v = (B_ + A_) * (D_ + C_) := ⟨_, rfl⟩
        obtain ⟨Z3, hZ3⟩ : ∃ v : FF, v = (D_ + C_) * (D_ - C_) := ⟨_, rfl⟩
        obtain ⟨T3, hT3⟩ : ∃ v : FF, v = (B_ - A_) * (B_ + A_) := ⟨_, rfl⟩
        have KA := andC (X := X2) (Y := Y2) (Z := Z2) (T := T2) (l := l0) (m := m0) (p := q0) hA_ hB_ hD_ hC_ hX3 hY3 hZ3 hT3
        have E3 := ex_and E2 (Pt.add_on (Pt.times_on hp _) (Pt.times_on hp _)) Pt.zero_on HA0.out.1 HA0.out.2.1 HA0.out.2.2 hA_ hB_ hD_ hC_ hX3 hY3 hZ3 hT3
        have KB := bitE n m (by have := HM.out; omega) (t := 0) (by omega)
        have HX3 : Hid (Ex4 X3 Y3 Z3 T3 (Pt.times (n.val / 2 ^ m) p)) := hid (by rw [hst, tm_even hp]; exact E3)
        clear hA_ hB_ hD_ hC_ hX3 hY3 hZ3 hT3 E2 E3 hst ht ht0 ht2 hp
        go_upto_region 4 with fail
        refine wpLA_start ?_
        refine wpLA_take (.int .i64 (((m + 1 : Nat) : Int))) (yG_val _ (by rfl) (fun w' _ => by (go_simp; try rfl))) ?_
        (try simp only [Act.put, List.getElem_toArray, List.getElem_cons_succ, List.getElem_cons_zero, List.setIfInBounds_toArray, List.set_cons_zero, List.set_cons_succ])
        refine wpLA_take (.bool false) (yG_val _ (by rfl) (fun w' _ => by (go_simp; omega))) ?_
        (try simp only [Act.put, List.getElem_toArray, List.getElem_cons_succ, List.getElem_cons_zero, List.setIfInBounds_toArray, List.set_cons_zero, List.set_cons_succ])
        refine wpLA_end ?_
        intro w101 hb
        have S101 := hid (HS.out.on hb)
        clear hb HS
        go_upto_region 6 with fail
        refine wpLA_start ?_
        refine wpLA_take (.int .i64 (((m + 1 : Nat) : Int))) (yG_val _ (by rfl) (fun w' _ => by (go_simp; try rfl))) ?_
        (try simp only [Act.put, List.getElem_toArray, List.getElem_cons_succ, List.getElem_cons_zero, List.setIfInBounds_toArray, List.set_cons_zero, List.set_cons_succ])
        refine wpLA_take (.int .i64 ((m : Nat))) (yG_val _ (by rfl) (fun w' _ => by (go_simp; exact HN2.out))) ?_
        (try simp only [Act.put, List.getElem_toArray, List.getElem_cons_succ, List.getElem_cons_zero, List.setIfInBounds_toArray, List.set_cons_zero, List.set_cons_succ])
        refine wpLA_take (.int .i64 ((m : Nat))) (yG_val _ (by rfl) (fun w' _ => by (go_simp; try rfl))) ?_
        (try simp only [Act.put, List.getElem_toArray, List.getElem_cons_succ, List.getElem_cons_zero, List.setIfInBounds_toArray, List.set_cons_zero, List.set_cons_succ])
        refine wpLA_end ?_
        intro w102 hb
        have S102 := hid (S101.out.on hb)
        clear hb S101
        go_upto_region 7 with fail
        refine wp_region_grA 8 (by kernel_rfl) (by decide) ?_
        refine wpGrA_take (i := 0) (.agg (cR X Y Z T)) rfl (by kernel_rfl) (by kernel_rfl) (fun _ _ _ h => h) (yG_part (by rfl) RT (.tmp 6) rfl p6 0 rfl RT (cR X Y Z T) (cR X Y Z T) (0, 0) _ S102.out.cl.1 (cR_all X Y Z T) Try.underlying74 rfl (infoR X Y Z T)) ?_
        (try simp only [Act.put, List.getElem_toArray, List.getElem_cons_succ, List.getElem_cons_zero, List.setIfInBounds_toArray, List.set_cons_zero, List.set_cons_succ])
        refine wpGrA_take (i := 1) (.agg (cR X2 Y2 Z2 T2)) rfl (by kernel_rfl) (by kernel_rfl) (fun _ _ _ h => h) (yG_call (by rfl) (fun w' => by go_simp) (fun w' hb => KT.out w')) ?_
        (try simp only [Act.put, List.getElem_toArray, List.getElem_cons_succ, List.getElem_cons_zero, List.setIfInBounds_toArray, List.set_cons_zero, List.set_cons_succ])
        refine wpGrA_take (i := 2) (.agg (sF n)) rfl (by kernel_rfl) (by kernel_rfl) (fun _ _ _ h => h) (yG_part (by rfl) ST (.tmp 3) rfl p3 0 rfl ST (sF n) (sF n) (0, 0) _ S102.out.cl.2.2.2.1 (sF_all n) Try.underlying56 rfl (infoSF n)) ?_
        (try simp only [Act.put, List.getElem_toArray, List.getElem_cons_succ, List.getElem_cons_zero, List.setIfInBounds_toArray, List.set_cons_zero, List.set_cons_succ])
        refine wpGrA_take (i := 3) (.int .i64 ((m : Nat))) rfl (by kernel_rfl) (by kernel_rfl) (fun _ _ _ h => h) (yG_val _ (by rfl) (fun w' _ => by (go_simp; try rfl))) ?_
        (try simp only [Act.put, List.getElem_toArray, List.getElem_cons_succ, List.getElem_cons_zero, List.setIfInBounds_toArray, List.set_cons_zero, List.set_cons_succ])
        refine wpGrA_take (i := 4) (.int .i64 0) rfl (by kernel_rfl) (by kernel_rfl) (fun _ _ _ h => h) (yG_call (by rfl) (fun w' => by go_simp) (fun w' hb => KB.out w')) ?_
        (try simp only [Act.put, List.getElem_toArray, List.getElem_cons_succ, List.getElem_cons_zero, List.setIfInBounds_toArray, List.set_cons_zero, List.set_cons_succ])
        refine wpGrA_take (i := 5) (.pointer (some ⟨p5, 0, none⟩)) rfl (by kernel_rfl) (by kernel_rfl) (fun _ _ _ h => h) (yG_val _ (by rfl) (fun w' _ => by (go_simp; try rfl))) ?_
        (try simp only [Act.put, List.getElem_toArray, List.getElem_cons_succ, List.getElem_cons_zero, List.setIfInBounds_toArray, List.set_cons_zero, List.set_cons_succ])
        refine wpGrA_take (i := 6) (.agg (cA l0 m0 q0)) rfl (by kernel_rfl) (by kernel_rfl) (fun _ _ _ h => h) (yG_part (by rfl) AT (.tmp 25) rfl p5 0 rfl TT (cT l0 m0 q0 l1 m1 q1) (cA l0 m0 q0) (0, 0) _ S102.out.cl.2.1 (cT_0 l0 m0 q0 l1 m1 q1) Try.underlying78 rfl (infoA l0 m0 q0)) ?_
        (try simp only [Act.put, List.getElem_toArray, List.getElem_cons_succ, List.getElem_cons_zero, List.setIfInBounds_toArray, List.set_cons_zero, List.set_cons_succ])
        refine wpGrA_take (i := 7) (.agg (cR X3 Y3 Z3 T3)) rfl (by kernel_rfl) (by kernel_rfl) (fun _ _ _ h => h) (yG_call (by rfl) (fun w' => by go_simp) (fun w' hb => KA.out w')) ?_
        (try simp only [Act.put, List.getElem_toArray, List.getElem_cons_succ, List.getElem_cons_zero, List.setIfInBounds_toArray, List.set_cons_zero, List.set_cons_succ])
        refine wpGrA_end (by kernel_rfl) ?_
        intro w103 hb
        have S103 := hid (S102.out.on hb)
        clear hb S102
        refine wpLA_here ?_
        refine wpLA_store rfl RT (.tmp 6) (.tmp 27) rfl p6 (cR X3 Y3 Z3 T3) rfl rfl RT (cR X Y Z T) S103.out.cl.1 (infoR X3 Y3 Z3 T3) ((cR_size X Y Z T).trans (cR_size X3 Y3 Z3 T3).symm) (cR_one X3 Y3 Z3 T3) ?_
        intro wx hb
        have S104 : Hid (St w (wx.setRow p6 (cR X3 Y3 Z3 T3)) [(p6, cR X3 Y3 Z3 T3, RT), (p5, cT l0 m0 q0 l1 m1 q1, TT), (p4, cR 0 0 0 0, RT), (p3, sF n, ST), (p2, cP x a, PT)] []) := hid ((S103.out.on hb).put0 0 rfl)
        clear hb S103
        generalize wx.setRow p6 (cR X3 Y3 Z3 T3) = w104 at S104 ⊢
        (try simp only [Act.put, List.getElem_toArray, List.getElem_cons_succ, List.getElem_cons_zero, List.setIfInBounds_toArray, List.set_cons_zero, List.set_cons_succ])
        refine wpLA_end ?_
        intro w105 hb
        have S105 := hid (S104.out.on hb)
        clear hb S104
        go_wp2_with fail
        go_step3
        refine ⟨rfl, ⟨m, p2, p3, p4, p5, p6, X3, Y3, Z3, T3, _, _, _, _, _, _, _, _, _, _, _, _, _, _, _, _, _, _, _, _, rfl, by have := HM.out; omega, HX3.out, S105.out⟩, by show (intOf (.int .i64 ((m : Nat) : Int))).toNat < (intOf (.int .i64 ((m + 1 : Nat) : Int))).toNat; simp [intOf]⟩
      · have ht0 := ht
        obtain ⟨A_, hA_⟩ : ∃ v : FF, v = (Y2 - X2) * l1 := ⟨_, rfl⟩
        obtain ⟨B_, hB_⟩ : ∃ v : FF, v = (Y2 + X2) * m1 := ⟨_, rfl⟩
        obtain ⟨D_, hD_⟩ : ∃ v : FF, v = Z2 + Z2 := ⟨_, rfl⟩
        obtain ⟨C_, hC_⟩ : ∃ v : FF, v = T2 * q1 := ⟨_, rfl⟩
        obtain ⟨X3, hX3⟩ : ∃ v : FF, v = (B_ - A_) * (D_ - C_) := ⟨_, rfl⟩
        obtain ⟨Y3, hY3⟩ : ∃ v : FF, v = (B_ + A_) * (D_ + C_) := ⟨_, rfl⟩
        obtain ⟨Z3, hZ3⟩ : ∃ v : FF, v = (D_ + C_) * (D_ - C_) := ⟨_, rfl⟩
        obtain ⟨T3, hT3⟩ : ∃ v : FF, v = (B_ - A_) * (B_ + A_) := ⟨_, rfl⟩
        have KA := andC (X := X2) (Y := Y2) (Z := Z2) (T := T2) (l := l1) (m := m1) (p := q1) hA_ hB_ hD_ hC_ hX3 hY3 hZ3 hT3
        have E3 := ex_and E2 (Pt.add_on (Pt.times_on hp _) (Pt.times_on hp _)) hp HA1.out.1 HA1.out.2.1 HA1.out.2.2 hA_ hB_ hD_ hC_ hX3 hY3 hZ3 hT3
        have KB := bitE n m (by have := HM.out; omega) (t := 1) (by omega)
        have HX3 : Hid (Ex4 X3 Y3 Z3 T3 (Pt.times (n.val / 2 ^ m) p)) := hid (by rw [hst, tm_odd hp]; exact E3)
        clear hA_ hB_ hD_ hC_ hX3 hY3 hZ3 hT3 E2 E3 hst ht ht0 ht2 hp
        go_upto_region 4 with fail
        refine wpLA_start ?_
        refine wpLA_take (.int .i64 (((m + 1 : Nat) : Int))) (yG_val _ (by rfl) (fun w' _ => by (go_simp; try rfl))) ?_
        (try simp only [Act.put, List.getElem_toArray, List.getElem_cons_succ, List.getElem_cons_zero, List.setIfInBounds_toArray, List.set_cons_zero, List.set_cons_succ])
        refine wpLA_take (.bool false) (yG_val _ (by rfl) (fun w' _ => by (go_simp; omega))) ?_
        (try simp only [Act.put, List.getElem_toArray, List.getElem_cons_succ, List.getElem_cons_zero, List.setIfInBounds_toArray, List.set_cons_zero, List.set_cons_succ])
        refine wpLA_end ?_
        intro w101 hb
        have S101 := hid (HS.out.on hb)
        clear hb HS
        go_upto_region 6 with fail
        refine wpLA_start ?_
        refine wpLA_take (.int .i64 (((m + 1 : Nat) : Int))) (yG_val _ (by rfl) (fun w' _ => by (go_simp; try rfl))) ?_
        (try simp only [Act.put, List.getElem_toArray, List.getElem_cons_succ, List.getElem_cons_zero, List.setIfInBounds_toArray, List.set_cons_zero, List.set_cons_succ])
        refine wpLA_take (.int .i64 ((m : Nat))) (yG_val _ (by rfl) (fun w' _ => by (go_simp; exact HN2.out))) ?_
        (try simp only [Act.put, List.getElem_toArray, List.getElem_cons_succ, List.getElem_cons_zero, List.setIfInBounds_toArray, List.set_cons_zero, List.set_cons_succ])
        refine wpLA_take (.int .i64 ((m : Nat))) (yG_val _ (by rfl) (fun w' _ => by (go_simp; try rfl))) ?_
        (try simp only [Act.put, List.getElem_toArray, List.getElem_cons_succ, List.getElem_cons_zero, List.setIfInBounds_toArray, List.set_cons_zero, List.set_cons_succ])
        refine wpLA_end ?_
        intro w102 hb
        have S102 := hid (S101.out.on hb)
        clear hb S101
        go_upto_region 7 with fail
        refine wp_region_grA 8 (by kernel_rfl) (by decide) ?_
        refine wpGrA_take (i := 0) (.agg (cR X Y Z T)) rfl (by kernel_rfl) (by kernel_rfl) (fun _ _ _ h => h) (yG_part (by rfl) RT (.tmp 6) rfl p6 0 rfl RT (cR X Y Z T) (cR X Y Z T) (0, 0) _ S102.out.cl.1 (cR_all X Y Z T) Try.underlying74 rfl (infoR X Y Z T)) ?_
        (try simp only [Act.put, List.getElem_toArray, List.getElem_cons_succ, List.getElem_cons_zero, List.setIfInBounds_toArray, List.set_cons_zero, List.set_cons_succ])
        refine wpGrA_take (i := 1) (.agg (cR X2 Y2 Z2 T2)) rfl (by kernel_rfl) (by kernel_rfl) (fun _ _ _ h => h) (yG_call (by rfl) (fun w' => by go_simp) (fun w' hb => KT.out w')) ?_
        (try simp only [Act.put, List.getElem_toArray, List.getElem_cons_succ, List.getElem_cons_zero, List.setIfInBounds_toArray, List.set_cons_zero, List.set_cons_succ])
        refine wpGrA_take (i := 2) (.agg (sF n)) rfl (by kernel_rfl) (by kernel_rfl) (fun _ _ _ h => h) (yG_part (by rfl) ST (.tmp 3) rfl p3 0 rfl ST (sF n) (sF n) (0, 0) _ S102.out.cl.2.2.2.1 (sF_all n) Try.underlying56 rfl (infoSF n)) ?_
        (try simp only [Act.put, List.getElem_toArray, List.getElem_cons_succ, List.getElem_cons_zero, List.setIfInBounds_toArray, List.set_cons_zero, List.set_cons_succ])
        refine wpGrA_take (i := 3) (.int .i64 ((m : Nat))) rfl (by kernel_rfl) (by kernel_rfl) (fun _ _ _ h => h) (yG_val _ (by rfl) (fun w' _ => by (go_simp; try rfl))) ?_
        (try simp only [Act.put, List.getElem_toArray, List.getElem_cons_succ, List.getElem_cons_zero, List.setIfInBounds_toArray, List.set_cons_zero, List.set_cons_succ])
        refine wpGrA_take (i := 4) (.int .i64 1) rfl (by kernel_rfl) (by kernel_rfl) (fun _ _ _ h => h) (yG_call (by rfl) (fun w' => by go_simp) (fun w' hb => KB.out w')) ?_
        (try simp only [Act.put, List.getElem_toArray, List.getElem_cons_succ, List.getElem_cons_zero, List.setIfInBounds_toArray, List.set_cons_zero, List.set_cons_succ])
        refine wpGrA_take (i := 5) (.pointer (some ⟨p5, 12, none⟩)) rfl (by kernel_rfl) (by kernel_rfl) (fun _ _ _ h => h) (yG_val _ (by rfl) (fun w' _ => by (go_simp; try rfl))) ?_
        (try simp only [Act.put, List.getElem_toArray, List.getElem_cons_succ, List.getElem_cons_zero, List.setIfInBounds_toArray, List.set_cons_zero, List.set_cons_succ])
        refine wpGrA_take (i := 6) (.agg (cA l1 m1 q1)) rfl (by kernel_rfl) (by kernel_rfl) (fun _ _ _ h => h) (yG_part (by rfl) AT (.tmp 25) rfl p5 12 rfl TT (cT l0 m0 q0 l1 m1 q1) (cA l1 m1 q1) (0, 0) _ S102.out.cl.2.1 (cT_12 l0 m0 q0 l1 m1 q1) Try.underlying78 rfl (infoA l1 m1 q1)) ?_
        (try simp only [Act.put, List.getElem_toArray, List.getElem_cons_succ, List.getElem_cons_zero, List.setIfInBounds_toArray, List.set_cons_zero, List.set_cons_succ])
        refine wpGrA_take (i := 7) (.agg (cR X3 Y3 Z3 T3)) rfl (by kernel_rfl) (by kernel_rfl) (fun _ _ _ h => h) (yG_call (by rfl) (fun w' => by go_simp) (fun w' hb => KA.out w')) ?_
        (try simp only [Act.put, List.getElem_toArray, List.getElem_cons_succ, List.getElem_cons_zero, List.setIfInBounds_toArray, List.set_cons_zero, List.set_cons_succ])
        refine wpGrA_end (by kernel_rfl) ?_
        intro w103 hb
        have S103 := hid (S102.out.on hb)
        clear hb S102
        refine wpLA_here ?_
        refine wpLA_store rfl RT (.tmp 6) (.tmp 27) rfl p6 (cR X3 Y3 Z3 T3) rfl rfl RT (cR X Y Z T) S103.out.cl.1 (infoR X3 Y3 Z3 T3) ((cR_size X Y Z T).trans (cR_size X3 Y3 Z3 T3).symm) (cR_one X3 Y3 Z3 T3) ?_
        intro wx hb
        have S104 : Hid (St w (wx.setRow p6 (cR X3 Y3 Z3 T3)) [(p6, cR X3 Y3 Z3 T3, RT), (p5, cT l0 m0 q0 l1 m1 q1, TT), (p4, cR 0 0 0 0, RT), (p3, sF n, ST), (p2, cP x a, PT)] []) := hid ((S103.out.on hb).put0 0 rfl)
        clear hb S103
        generalize wx.setRow p6 (cR X3 Y3 Z3 T3) = w104 at S104 ⊢
        (try simp only [Act.put, List.getElem_toArray, List.getElem_cons_succ, List.getElem_cons_zero, List.setIfInBounds_toArray, List.set_cons_zero, List.set_cons_succ])
        refine wpLA_end ?_
        intro w105 hb
        have S105 := hid (S104.out.on hb)
        clear hb S104
        go_wp2_with fail
        go_step3
        refine ⟨rfl, ⟨m, p2, p3, p4, p5, p6, X3, Y3, Z3, T3, _, _, _, _, _, _, _, _, _, _, _, _, _, _, _, _, _, _, _, _, rfl, by have := HM.out; omega, HX3.out, S105.out⟩, by show (intOf (.int .i64 ((m : Nat) : Int))).toNat < (intOf (.int .i64 ((m + 1 : Nat) : Int))).toNat; simp [intOf]⟩
set_option maxHeartbeats 1000000 in
theorem mulC {x a : FF} {p : Pt} (hp : p.on) (hx : x = p.x) (ha : a = p.y - 1) (n : SF) (w : World) : Calls Try.prog 32 #[.agg (cP x a), .agg (sF n)] w fun e w' => e = .returned (.agg (cP (Pt.times n.val p).x ((Pt.times n.val p).y - 1))) ∧ Below w.heap.size w w' := by
  have KM := hid (fun W => productC' hp hx ha n W)
  clear hp hx ha
  go_enter Try.func32, Try.ntmps32
  have S0 : Hid (St w w [] []) := hid (St.start w)
  go_upto_region 0 with fail
  refine wpLA_start ?_
  refine wpLA_box (cP x a) (by rfl) rfl rfl ?_
  intro p1 w1 hp hz hb
  have S1 : Hid (St w w1 [(p1, cP x a, PT)] []) := hid (S0.out.alloc hb hp hz)
  clear hp hz hb S0
  (try simp only [Act.put, List.getElem_toArray, List.getElem_cons_succ, List.getElem_cons_zero, List.setIfInBounds_toArray, List.set_cons_zero, List.set_cons_succ])
  refine wpLA_box (sF n) (by rfl) rfl rfl ?_
  intro p2 w2 hp hz hb
  have S2 : Hid (St w w2 [(p2, sF n, ST), (p1, cP x a, PT)] []) := hid (S1.out.alloc hb hp hz)
  clear hp hz hb S1
  (try simp only [Act.put, List.getElem_toArray, List.getElem_cons_succ, List.getElem_cons_zero, List.setIfInBounds_toArray, List.set_cons_zero, List.set_cons_succ])
  refine wpLA_alloc (by rfl) rfl zeroPc ?_
  intro p3 w3 hp hz hb
  have S3 : Hid (St w w3 [(p3, cP 0 0, PT), (p2, sF n, ST), (p1, cP x a, PT)] []) := hid (S2.out.alloc hb hp hz)
  clear hp hz hb S2
  (try simp only [Act.put, List.getElem_toArray, List.getElem_cons_succ, List.getElem_cons_zero, List.setIfInBounds_toArray, List.set_cons_zero, List.set_cons_succ])
  refine wpLA_end ?_
  intro w4 hb
  have S4 := hid (S3.out.on hb)
  clear hb S3
  go_upto_region 1 with fail
  refine wpLA_start ?_
  refine wpLA_take (.agg (cP x a)) (yG_part (by rfl) PT (.tmp 2) rfl p1 0 rfl PT (cP x a) (cP x a) (0, 0) _ S4.out.cl.2.2.1 (cP_all x a) Try.underlying28 rfl (infoPc x a)) ?_
  (try simp only [Act.put, List.getElem_toArray, List.getElem_cons_succ, List.getElem_cons_zero, List.setIfInBounds_toArray, List.set_cons_zero, List.set_cons_succ])
  refine wpLA_take (.agg (sF n)) (yG_part (by rfl) ST (.tmp 3) rfl p2 0 rfl ST (sF n) (sF n) (0, 0) _ S4.out.cl.2.1 (sF_all n) Try.underlying56 rfl (infoSF n)) ?_
  (try simp only [Act.put, List.getElem_toArray, List.getElem_cons_succ, List.getElem_cons_zero, List.setIfInBounds_toArray, List.set_cons_zero, List.set_cons_succ])
  refine wpLA_call (fun w' v w'' => (∃ X Y Z T, v = .agg (cR X Y Z T) ∧ Ex4 X Y Z T (Pt.times n.val p)) ∧ Below w'.heap.size w' w'') (by rfl) (fun w' => by go_simp) (fun w' hb => (KM.out w').mono (fun e w'' ⟨X, Y, Z, T, he, hx, hb⟩ => ⟨_, he, ⟨X, Y, Z, T, rfl, hx⟩, hb⟩)) ?_
  rintro wx v w5 hb ⟨⟨X, Y, Z, T, rfl, hX⟩, hk⟩
  have S5 : Hid (St w w5 [(p3, cP 0 0, PT), (p2, sF n, ST), (p1, cP x a, PT)] []) := hid ((S4.out.on hb).on hk)
  have KPT := pointC (x := X) (y := Y) (z := Z) (t := T) (r := (Pt.times n.val p).x) (s := (Pt.times n.val p).y - 1) (ex_point hX).1.symm (by rw [(ex_point hX).2])
  clear hb hk hX S4
  (try simp only [Act.put, List.getElem_toArray, List.getElem_cons_succ, List.getElem_cons_zero, List.setIfInBounds_toArray, List.set_cons_zero, List.set_cons_succ])
  refine wpLA_take (.agg (cP (Pt.times n.val p).x ((Pt.times n.val p).y - 1))) (yG_call (by rfl) (fun w' => by go_simp) (fun w' hb => KPT.out w')) ?_
  (try simp only [Act.put, List.getElem_toArray, List.getElem_cons_succ, List.getElem_cons_zero, List.setIfInBounds_toArray, List.set_cons_zero, List.set_cons_succ])
  refine wpLA_store rfl PT (.tmp 4) (.tmp 8) rfl p3 (cP (Pt.times n.val p).x ((Pt.times n.val p).y - 1)) rfl rfl PT (cP 0 0) S5.out.cl.1 (infoPc (Pt.times n.val p).x ((Pt.times n.val p).y - 1)) ((cP_size 0 0).trans (cP_size (Pt.times n.val p).x ((Pt.times n.val p).y - 1)).symm) (cP_one (Pt.times n.val p).x ((Pt.times n.val p).y - 1)) ?_
  intro wx hb
  have S6 : Hid (St w (wx.setRow p3 (cP (Pt.times n.val p).x ((Pt.times n.val p).y - 1))) [(p3, cP (Pt.times n.val p).x ((Pt.times n.val p).y - 1), PT), (p2, sF n, ST), (p1, cP x a, PT)] []) := hid ((S5.out.on hb).put0 0 rfl)
  clear hb S5
  generalize wx.setRow p3 (cP (Pt.times n.val p).x ((Pt.times n.val p).y - 1)) = w6 at S6 ⊢
  (try simp only [Act.put, List.getElem_toArray, List.getElem_cons_succ, List.getElem_cons_zero, List.setIfInBounds_toArray, List.set_cons_zero, List.set_cons_succ])
  refine wpLA_end ?_
  intro w7 hb
  have S7 := hid (S6.out.on hb)
  clear hb S6
  go_wp2_with fail
  exact bodyPost_ret (v := .agg (cP (Pt.times n.val p).x ((Pt.times n.val p).y - 1))) (results_cell_row rfl _ _ p3 PT _ (0, 0) _ rfl S7.out.cl.1 Try.underlying28 rfl (infoPc (Pt.times n.val p).x ((Pt.times n.val p).y - 1))) rfl ⟨rfl, S7.out.below⟩
end Go.Proofs.Ytealegfmmeklcaa
