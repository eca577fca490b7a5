/-
  The document's layer 11, a block sealed: columns mixed.
-/
import Derived.Test.YtfjcedfjfadfpaaRef11f
namespace Go.Proofs.Ytfjcedfjfadfpaa
open Go.RowKit
set_option linter.unusedVariables false
set_option linter.unusedSimpArgs false

set_option maxRecDepth 100000 in
set_option maxHeartbeats 4000000 in
theorem blk11_l6 {Q : Exit → Act → World → Prop} (A' Ab Aw : Option Addr) (c' cb cw g : Nat) (ky : Nat → Nat) (wb w : World) (cc gt gu : Nat) (S T : Nat → Nat) (t0 t3 t4 t5 t6 t9 t10 t12 t13 t17 t18 t19 t20 t21 t22 t23 t24 t25 t26 t27 t28 t29 t30 t31 t32 t33 t34 t35 t36 t37 t38 t39 t40 t41 t42 t43 t44 t45 t46 t47 t48 t49 t50 t51 t52 t53 t54 t55 t56 t57 t58 t59 t60 t61 t62 t63 t64 t65 t66 t67 t68 t69 t70 t71 t72 t73 t74 t75 t76 t77 t78 t79 t80 t81 t82 t83 t84 t85 t86 t87 t88 t89 t90 t91 t92 t93 t94 t95 t96 t97 t98 t99 t100 t101 t102 t103 t104 t105 t106 t107 t108 t109 t110 t111 t112 t113 t114 t115 t116 t117 t118 t119 t120 t121 t122 t123 t124 t125 t126 t127 t128 t129 t130 t131 t132 t133 t134 t135 t136 t137 t138 t139 t140 t141 t142 t143 t144 t145 t146 t147 t148 t149 t150 t151 t152 t153 t154 t155 t156 t157 t158 t159 t160 t161 t162 t163 t164 t165 t166 t167 t168 t169 t170 t171 : Value) (hcc : cc < 4) (hT : ∀ i, T i < 256) (hgt : wb.heap.size ≤ gt) (hgu : wb.heap.size ≤ gu) (hgg : wb.heap.size ≤ g) (hne : gt ≠ gu) (hne2 : g ≠ gu) (h0 : w.heap[gt]? = some (.cells (bI (T)) 3 (0, 0))) (h1 : w.heap[gu]? = some (.cells (bI (cut (mixS T) (4 * cc))) 3 (0, 0))) (h2 : w.heap[g]? = some (.cells (bI (S)) 3 (0, 0))) (hb : Below wb.heap.size wb w)
    (hexit : ∀ (w' : World) (u85 u86 u87 u88 u89 u90 u91 u92 u93 u94 u95 u96 u97 u98 u99 u100 u101 u102 u103 u104 u105 u106 u107 u108 u109 u110 u111 u112 u113 u114 u115 u116 u117 u118 u119 u120 u121 u122 u123 u124 u125 u126 u127 u128 u129 u130 u131 u132 u133 : Value), w'.heap[gt]? = some (.cells (bI (T)) 3 (0, 0)) → w'.heap[gu]? = some (.cells (bI (cut (mixS T) (4 * cc + 4))) 3 (0, 0)) → w'.heap[g]? = some (.cells (bI (S)) 3 (0, 0)) → Below wb.heap.size wb w' → Q (.exit 10) ⟨(t0 :: (.slice A' 16 c') :: (.slice Ab 256 cb) :: t3 :: t4 :: t5 :: t6 :: (.slice Aw 44 cw) :: (.slice (some ⟨g, 0, none⟩) 16 16) :: t9 :: t10 :: (.slice (some ⟨gt, 0, none⟩) 16 16) :: t12 :: t13 :: (.slice (some ⟨gu, 0, none⟩) 16 16) :: (.int .i64 (cc : Int)) :: (.int .i64 4) :: t17 :: t18 :: t19 :: t20 :: t21 :: t22 :: t23 :: t24 :: t25 :: t26 :: t27 :: t28 :: t29 :: t30 :: t31 :: t32 :: t33 :: t34 :: t35 :: t36 :: t37 :: t38 :: t39 :: t40 :: t41 :: t42 :: t43 :: t44 :: t45 :: t46 :: t47 :: t48 :: t49 :: t50 :: t51 :: t52 :: t53 :: t54 :: t55 :: t56 :: t57 :: t58 :: t59 :: t60 :: t61 :: t62 :: t63 :: t64 :: t65 :: t66 :: t67 :: t68 :: t69 :: t70 :: t71 :: t72 :: t73 :: t74 :: t75 :: t76 :: t77 :: t78 :: t79 :: t80 :: t81 :: t82 :: t83 :: t84 :: u85 :: u86 :: u87 :: u88 :: u89 :: u90 :: u91 :: u92 :: u93 :: u94 :: u95 :: u96 :: u97 :: u98 :: u99 :: u100 :: u101 :: u102 :: u103 :: u104 :: u105 :: u106 :: u107 :: u108 :: u109 :: u110 :: u111 :: u112 :: u113 :: u114 :: u115 :: u116 :: u117 :: u118 :: u119 :: u120 :: u121 :: u122 :: u123 :: u124 :: u125 :: u126 :: u127 :: u128 :: u129 :: u130 :: u131 :: u132 :: u133 :: t134 :: t135 :: t136 :: t137 :: t138 :: t139 :: t140 :: t141 :: t142 :: t143 :: t144 :: t145 :: t146 :: t147 :: t148 :: t149 :: t150 :: t151 :: t152 :: t153 :: t154 :: t155 :: t156 :: t157 :: t158 :: t159 :: t160 :: t161 :: t162 :: t163 :: t164 :: t165 :: t166 :: t167 :: t168 :: t169 :: t170 :: t171 :: []).toArray, []⟩ w') :
    Code.wp Try.prog (Code.loop (loopN Try.f16 5)) Q ⟨(t0 :: (.slice A' 16 c') :: (.slice Ab 256 cb) :: t3 :: t4 :: t5 :: t6 :: (.slice Aw 44 cw) :: (.slice (some ⟨g, 0, none⟩) 16 16) :: t9 :: t10 :: (.slice (some ⟨gt, 0, none⟩) 16 16) :: t12 :: t13 :: (.slice (some ⟨gu, 0, none⟩) 16 16) :: (.int .i64 (cc : Int)) :: (.int .i64 0) :: t17 :: t18 :: t19 :: t20 :: t21 :: t22 :: t23 :: t24 :: t25 :: t26 :: t27 :: t28 :: t29 :: t30 :: t31 :: t32 :: t33 :: t34 :: t35 :: t36 :: t37 :: t38 :: t39 :: t40 :: t41 :: t42 :: t43 :: t44 :: t45 :: t46 :: t47 :: t48 :: t49 :: t50 :: t51 :: t52 :: t53 :: t54 :: t55 :: t56 :: t57 :: t58 :: t59 :: t60 :: t61 :: t62 :: t63 :: t64 :: t65 :: t66 :: t67 :: t68 :: t69 :: t70 :: t71 :: t72 :: t73 :: t74 :: t75 :: t76 :: t77 :: t78 :: t79 :: t80 :: t81 :: t82 :: t83 :: t84 :: t85 :: t86 :: t87 :: t88 :: t89 :: t90 :: t91 :: t92 :: t93 :: t94 :: t95 :: t96 :: t97 :: t98 :: t99 :: t100 :: t101 :: t102 :: t103 :: t104 :: t105 :: t106 :: t107 :: t108 :: t109 :: t110 :: t111 :: t112 :: t113 :: t114 :: t115 :: t116 :: t117 :: t118 :: t119 :: t120 :: t121 :: t122 :: t123 :: t124 :: t125 :: t126 :: t127 :: t128 :: t129 :: t130 :: t131 :: t132 :: t133 :: t134 :: t135 :: t136 :: t137 :: t138 :: t139 :: t140 :: t141 :: t142 :: t143 :: t144 :: t145 :: t146 :: t147 :: t148 :: t149 :: t150 :: t151 :: t152 :: t153 :: t154 :: t155 :: t156 :: t157 :: t158 :: t159 :: t160 :: t161 :: t162 :: t163 :: t164 :: t165 :: t166 :: t167 :: t168 :: t169 :: t170 :: t171 :: []).toArray, []⟩ w := by
  conv => arg 2; arg 1; whnf
  have HT := hid hT; have HCC := hid hcc; have HGU := hid hgu; have HNE := hid hne; have HNE2 := hid hne2
  clear hT hgt hgu hne hne2 hgg
  go_loopg [16] 4 (fun q rr wr => ∃ k : Nat, k + q = 4 ∧ rr = .int .i64 (k : Int) ∧ wr.heap[gt]? = some (.cells (bI (T)) 3 (0, 0)) ∧ wr.heap[gu]? = some (.cells (bI (cut (mixS T) (4 * cc + k))) 3 (0, 0)) ∧ wr.heap[g]? = some (.cells (bI (S)) 3 (0, 0)) ∧ Below wb.heap.size wb wr)
  case atStart => exact ⟨0, rfl, rfl, h0, h1, h2, hb⟩
  case round =>
    clear h0 h1 h2 hb
    obtain ⟨k, hk, rfl, h0, h1, h2, hb⟩ := hrel
    have HK := hid hk; have H0 := hid h0; have H1 := hid h1; have H2 := hid h2; have HB := hid hb
    have hk4 : k ≤ 4 := by omega
    clear hk h0 h1 h2 hb
    by_cases hlt : k < 4
    · have hx : (k : Int) < 4 := by omega
      clear hexit
      obtain ⟨m, hm⟩ : ∃ m, m = 4 * cc := ⟨_, rfl⟩
      obtain ⟨q0, hq0⟩ : ∃ q, q = k + m := ⟨_, rfl⟩
      obtain ⟨r1, hr1⟩ : ∃ x, x = k + 1 := ⟨_, rfl⟩
      obtain ⟨s1, hs1⟩ : ∃ x, x = r1 % 4 := ⟨_, rfl⟩
      obtain ⟨q1, hq1⟩ : ∃ x, x = s1 + m := ⟨_, rfl⟩
      obtain ⟨r2, hr2⟩ : ∃ x, x = k + 2 := ⟨_, rfl⟩
      obtain ⟨s2, hs2⟩ : ∃ x, x = r2 % 4 := ⟨_, rfl⟩
      obtain ⟨q2, hq2⟩ : ∃ x, x = s2 + m := ⟨_, rfl⟩
      obtain ⟨r3, hr3⟩ : ∃ x, x = k + 3 := ⟨_, rfl⟩
      obtain ⟨s3, hs3⟩ : ∃ x, x = r3 % 4 := ⟨_, rfl⟩
      obtain ⟨q3, hq3⟩ : ∃ x, x = s3 + m := ⟨_, rfl⟩
      have e1 : IntKind.i64.wrap (4 * (cc : Int)) = (m : Int) := i64_4 hm (by rw [hm]; clear hq0 hr1 hs1 hq1 hr2 hs2 hq2 hr3 hs3 hq3; omega)
      have e2 : IntKind.i64.wrap ((k : Int) + (m : Int)) = (q0 : Int) := i64_s hq0 (by rw [hq0, hm]; clear hr1 hs1 hq1 hr2 hs2 hq2 hr3 hs3 hq3; omega)
      obtain ⟨f1, a1, a2, a3, e3, p1, p1', z1⟩ := mix_q hlt hcc hm hr1 (by decide) hs1 hq1
      obtain ⟨f2, b1, b2, b3, e4, p2, p2', z2⟩ := mix_q hlt hcc hm hr2 (by decide) hs2 hq2
      obtain ⟨f3, d1, d2, d3, e5, p3, p3', z3⟩ := mix_q hlt hcc hm hr3 (by decide) hs3 hq3
      have z0 : q0 < 16 := by rw [hq0, hm]; clear hr1 hs1 hq1 hr2 hs2 hq2 hr3 hs3 hq3; omega
      have p0 : (q0 : Int) < 16 := by exact_mod_cast z0
      have p0' : (0 : Int) ≤ (q0 : Int) := Int.natCast_nonneg q0
      replace f1 : IntKind.i64.wrap ((k : Int) + 1) = (r1 : Int) := f1
      replace f2 : IntKind.i64.wrap ((k : Int) + 2) = (r2 : Int) := f2
      replace f3 : IntKind.i64.wrap ((k : Int) + 3) = (r3 : Int) := f3
      obtain ⟨x0, hx0⟩ : ∃ x, x = T q0 := ⟨_, rfl⟩
      obtain ⟨x1, hx1⟩ : ∃ x, x = T q1 := ⟨_, rfl⟩
      obtain ⟨x2, hx2⟩ : ∃ x, x = T q2 := ⟨_, rfl⟩
      obtain ⟨x3, hx3⟩ : ∃ x, x = T q3 := ⟨_, rfl⟩
      have l0 : x0 < 256 := by rw [hx0]; exact HT.out _
      have l1 : x1 < 256 := by rw [hx1]; exact HT.out _
      have l2 : x2 < 256 := by rw [hx2]; exact HT.out _
      have l3 : x3 < 256 := by rw [hx3]; exact HT.out _
      have c0 : wr.cell? ⟨gt, q0, none⟩ = some (.int .i64 (x0 : Int)) := cell_of H0.out q0 _ (by rw [bI_get _ q0 z0, hx0])
      have c1 : wr.cell? ⟨gt, q1, none⟩ = some (.int .i64 (x1 : Int)) := cell_of H0.out q1 _ (by rw [bI_get _ q1 z1, hx1])
      have c2 : wr.cell? ⟨gt, q2, none⟩ = some (.int .i64 (x2 : Int)) := cell_of H0.out q2 _ (by rw [bI_get _ q2 z2, hx2])
      have c3 : wr.cell? ⟨gt, q3, none⟩ = some (.int .i64 (x3 : Int)) := cell_of H0.out q3 _ (by rw [bI_get _ q3 z3, hx3])
      obtain ⟨t2, ht2⟩ : ∃ x, x = tmN 2 x0 := ⟨_, rfl⟩
      obtain ⟨t3, ht3⟩ : ∃ x, x = tmN 3 x1 := ⟨_, rfl⟩
      have lt2 : t2 < 256 := by rw [ht2]; exact tm_lt (by decide) l0
      have lt3 : t3 < 256 := by rw [ht3]; exact tm_lt (by decide) l1
      have KT2 : Hid (∀ (W : World) (k : Nat), Calls Try.prog 8 #[.int .i64 2, .int .i64 (x0 : Int)] (W.drewN k) fun e w' => e = .returned (.int .i64 (t2 : Int)) ∧ ∃ m, w' = W.drewN m) := hid fun W k => by
        rw [ht2]; exact (Times11_any 2 x0 (by decide) l0 _).mono fun _ _ h => ⟨h.1, k, h.2.symm⟩
      have KT3 : Hid (∀ (W : World) (k : Nat), Calls Try.prog 8 #[.int .i64 3, .int .i64 (x1 : Int)] (W.drewN k) fun e w' => e = .returned (.int .i64 (t3 : Int)) ∧ ∃ m, w' = W.drewN m) := hid fun W k => by
        rw [ht3]; exact (Times11_any 3 x1 (by decide) l1 _).mono fun _ _ h => ⟨h.1, k, h.2.symm⟩
      have g1 := i64_xor_b t2 t3 lt2 lt3
      obtain ⟨v1, hv1⟩ : ∃ x, x = t2 ^^^ t3 := ⟨_, rfl⟩
      rw [← hv1] at g1
      have lv1 : v1 < 256 := by rw [hv1]; exact xor_b lt2 lt3
      have g2 := i64_xor_b v1 x2 lv1 l2
      obtain ⟨v2, hv2⟩ : ∃ x, x = v1 ^^^ x2 := ⟨_, rfl⟩
      rw [← hv2] at g2
      have lv2 : v2 < 256 := by rw [hv2]; exact xor_b lv1 l2
      have g3 := i64_xor_b v2 x3 lv2 l3
      obtain ⟨v3, hv3⟩ : ∃ x, x = v2 ^^^ x3 := ⟨_, rfl⟩
      rw [← hv3] at g3
      have hval : v3 = mixS T q0 := by
        subst hr1; subst hr2; subst hr3; subst hs1; subst hs2; subst hs3; subst hm; subst hq0; subst hq1; subst hq2; subst hq3; subst hx0; subst hx1; subst hx2; subst hx3; subst ht2; subst ht3; subst hv1; subst hv2; subst hv3
        exact mixS_at HT.out k cc hlt
      have hct : wr.cell? ⟨gu, q0, none⟩ = some (.int .i64 ((cut (mixS T) (4 * cc + k) q0 : Nat) : Int)) := cell_of H1.out q0 _ (bI_get _ q0 z0)
      have hft : wr.frozen? ⟨gu, q0, none⟩ = false := frozen_of_row _ _ _ _ _ H1.out
      have HWr : Hid ((wr.setCell ⟨gu, q0, none⟩ (.int .i64 (v3 : Int))).heap[gu]? = some (.cells (bI (cut (mixS T) (4 * cc + (k + 1)))) 3 (0, 0))) := hid ((block_set H1.out q0 _).trans (by
        rw [bI_set _ _ _ z0]
        have e : bI (fun j => if j = q0 then v3 else cut (mixS T) (4 * cc + k) j) = bI (cut (mixS T) (4 * cc + (k + 1))) := bI_congr fun i _ => by
          unfold cut
          have hqq : q0 = 4 * cc + k := by rw [hq0, hm, Nat.add_comm]
          clear hr1 hs1 hq1 hr2 hs2 hq2 hr3 hs3 hq3 hx0 hx1 hx2 hx3 p0 p1 p2 p3 p0' p1' p2' p3' a1 a2 a3 b1 b2 b3 d1 d2 d3 e1 e2 e3 e4 e5 f1 f2 f3 c0 c1 c2 c3 hv1 hv2 hv3
          by_cases h : i = q0
          · rw [if_pos h, if_pos (by omega), hval, h]
          · rw [if_neg h]
            by_cases h2 : i < 4 * cc + k
            · rw [if_pos h2, if_pos (by omega)]
            · rw [if_neg h2, if_neg (by omega)]
        rw [e]))
      have H0' : Hid ((wr.setCell ⟨gu, q0, none⟩ (.int .i64 (v3 : Int))).heap[gt]? = some (.cells (bI T) 3 (0, 0))) := hid ((heap_setCell_other _ _ _ _ (by simpa using HNE.out)).trans H0.out)
      have H2' : Hid ((wr.setCell ⟨gu, q0, none⟩ (.int .i64 (v3 : Int))).heap[g]? = some (.cells (bI S) 3 (0, 0))) := hid ((heap_setCell_other _ _ _ _ (by simpa using HNE2.out)).trans H2.out)
      have HR1 := hid hr1
      clear hm hq0 hr1 hs1 hq1 hr2 hs2 hq2 hr3 hs3 hq3 hx0 hx1 hx2 hx3 l0 l1 l2 l3 ht2 ht3 lt2 lt3 hv1 lv1 hv2 lv2 hv3 hval hcc z0 z1 z2 z3
      go_wp2
      refine wp_region_quiet_tail 44 (by kernel_rfl) (by kernel_rfl) ?_
      simp only [List.take_succ_cons, List.take_zero, List.drop_succ_cons, List.drop_zero]
      repeat (quiet_step ((go_at_call 8; first | with_reducible exact KT2.out _ _ | with_reducible exact KT3.out _ _)))
      refine wpQuiet_nil ?_
      intro _ hw'
      obtain ⟨nq, hw''⟩ := hw'
      subst hw''
      go_wp2
      have hk := HK.out
      go_roundg (4 - k - 1)
      case measure => omega
      case rel => exact ⟨k + 1, by omega, by rw [HR1.out], H0'.out, HWr.out, H2'.out, (show Below wb.heap.size wb (wr.drewN nq) from ⟨HB.out.os, HB.out.tape, HB.out.output, HB.out.size, HB.out.block⟩).setCell HGU.out _⟩
    · have hke : k = 4 := by omega
      subst hke
      have hx : ¬ ((4 : Nat) : Int) < 4 := by omega
      clear hx
      go_wp2
      exact hexit _ _ _ _ _ _ _ _ _ _ _ _ _ _ _ _ _ _ _ _ _ _ _ _ _ _ _ _ _ _ _ _ _ _ _ _ _ _ _ _ _ _ _ _ _ _ _ _ _ _ H0.out H1.out H2.out HB.out
set_option maxRecDepth 100000 in
set_option maxHeartbeats 4000000 in
theorem blk11_l5 {Q : Exit → Act → World → Prop} (A' Ab Aw : Option Addr) (c' cb cw g : Nat) (ky : Nat → Nat) (wb w : World) (gt gu : Nat) (S T : Nat → Nat) (t0 t3 t4 t5 t6 t9 t10 t12 t13 t16 t17 t18 t19 t20 t21 t22 t23 t24 t25 t26 t27 t28 t29 t30 t31 t32 t33 t34 t35 t36 t37 t38 t39 t40 t41 t42 t43 t44 t45 t46 t47 t48 t49 t50 t51 t52 t53 t54 t55 t56 t57 t58 t59 t60 t61 t62 t63 t64 t65 t66 t67 t68 t69 t70 t71 t72 t73 t74 t75 t76 t77 t78 t79 t80 t81 t82 t83 t84 t85 t86 t87 t88 t89 t90 t91 t92 t93 t94 t95 t96 t97 t98 t99 t100 t101 t102 t103 t104 t105 t106 t107 t108 t109 t110 t111 t112 t113 t114 t115 t116 t117 t118 t119 t120 t121 t122 t123 t124 t125 t126 t127 t128 t129 t130 t131 t132 t133 t134 t135 t136 t137 t138 t139 t140 t141 t142 t143 t144 t145 t146 t147 t148 t149 t150 t151 t152 t153 t154 t155 t156 t157 t158 t159 t160 t161 t162 t163 t164 t165 t166 t167 t168 t169 t170 t171 : Value) (hT : ∀ i, T i < 256) (hgt : wb.heap.size ≤ gt) (hgu : wb.heap.size ≤ gu) (hgg : wb.heap.size ≤ g) (hne : gt ≠ gu) (hne2 : g ≠ gu) (h0 : w.heap[gt]? = some (.cells (bI (T)) 3 (0, 0))) (h1 : w.heap[gu]? = some (.cells (bI (fun _ => 0)) 3 (0, 0))) (h2 : w.heap[g]? = some (.cells (bI (S)) 3 (0, 0))) (hb : Below wb.heap.size wb w)
    (hexit : ∀ (w' : World) (u16 u81 u82 u83 u84 u85 u86 u87 u88 u89 u90 u91 u92 u93 u94 u95 u96 u97 u98 u99 u100 u101 u102 u103 u104 u105 u106 u107 u108 u109 u110 u111 u112 u113 u114 u115 u116 u117 u118 u119 u120 u121 u122 u123 u124 u125 u126 u127 u128 u129 u130 u131 u132 u133 : Value), w'.heap[gu]? = some (.cells (bI (mixS T)) 3 (0, 0)) → w'.heap[g]? = some (.cells (bI (S)) 3 (0, 0)) → Below wb.heap.size wb w' → Q (.exit 8) ⟨(t0 :: (.slice A' 16 c') :: (.slice Ab 256 cb) :: t3 :: t4 :: t5 :: t6 :: (.slice Aw 44 cw) :: (.slice (some ⟨g, 0, none⟩) 16 16) :: t9 :: t10 :: (.slice (some ⟨gt, 0, none⟩) 16 16) :: t12 :: t13 :: (.slice (some ⟨gu, 0, none⟩) 16 16) :: (.int .i64 4) :: u16 :: t17 :: t18 :: t19 :: t20 :: t21 :: t22 :: t23 :: t24 :: t25 :: t26 :: t27 :: t28 :: t29 :: t30 :: t31 :: t32 :: t33 :: t34 :: t35 :: t36 :: t37 :: t38 :: t39 :: t40 :: t41 :: t42 :: t43 :: t44 :: t45 :: t46 :: t47 :: t48 :: t49 :: t50 :: t51 :: t52 :: t53 :: t54 :: t55 :: t56 :: t57 :: t58 :: t59 :: t60 :: t61 :: t62 :: t63 :: t64 :: t65 :: t66 :: t67 :: t68 :: t69 :: t70 :: t71 :: t72 :: t73 :: t74 :: t75 :: t76 :: t77 :: t78 :: t79 :: t80 :: u81 :: u82 :: u83 :: u84 :: u85 :: u86 :: u87 :: u88 :: u89 :: u90 :: u91 :: u92 :: u93 :: u94 :: u95 :: u96 :: u97 :: u98 :: u99 :: u100 :: u101 :: u102 :: u103 :: u104 :: u105 :: u106 :: u107 :: u108 :: u109 :: u110 :: u111 :: u112 :: u113 :: u114 :: u115 :: u116 :: u117 :: u118 :: u119 :: u120 :: u121 :: u122 :: u123 :: u124 :: u125 :: u126 :: u127 :: u128 :: u129 :: u130 :: u131 :: u132 :: u133 :: t134 :: t135 :: t136 :: t137 :: t138 :: t139 :: t140 :: t141 :: t142 :: t143 :: t144 :: t145 :: t146 :: t147 :: t148 :: t149 :: t150 :: t151 :: t152 :: t153 :: t154 :: t155 :: t156 :: t157 :: t158 :: t159 :: t160 :: t161 :: t162 :: t163 :: t164 :: t165 :: t166 :: t167 :: t168 :: t169 :: t170 :: t171 :: []).toArray, []⟩ w') :
    Code.wp Try.prog (Code.loop (loopN Try.f16 4)) Q ⟨(t0 :: (.slice A' 16 c') :: (.slice Ab 256 cb) :: t3 :: t4 :: t5 :: t6 :: (.slice Aw 44 cw) :: (.slice (some ⟨g, 0, none⟩) 16 16) :: t9 :: t10 :: (.slice (some ⟨gt, 0, none⟩) 16 16) :: t12 :: t13 :: (.slice (some ⟨gu, 0, none⟩) 16 16) :: (.int .i64 0) :: t16 :: t17 :: t18 :: t19 :: t20 :: t21 :: t22 :: t23 :: t24 :: t25 :: t26 :: t27 :: t28 :: t29 :: t30 :: t31 :: t32 :: t33 :: t34 :: t35 :: t36 :: t37 :: t38 :: t39 :: t40 :: t41 :: t42 :: t43 :: t44 :: t45 :: t46 :: t47 :: t48 :: t49 :: t50 :: t51 :: t52 :: t53 :: t54 :: t55 :: t56 :: t57 :: t58 :: t59 :: t60 :: t61 :: t62 :: t63 :: t64 :: t65 :: t66 :: t67 :: t68 :: t69 :: t70 :: t71 :: t72 :: t73 :: t74 :: t75 :: t76 :: t77 :: t78 :: t79 :: t80 :: t81 :: t82 :: t83 :: t84 :: t85 :: t86 :: t87 :: t88 :: t89 :: t90 :: t91 :: t92 :: t93 :: t94 :: t95 :: t96 :: t97 :: t98 :: t99 :: t100 :: t101 :: t102 :: t103 :: t104 :: t105 :: t106 :: t107 :: t108 :: t109 :: t110 :: t111 :: t112 :: t113 :: t114 :: t115 :: t116 :: t117 :: t118 :: t119 :: t120 :: t121 :: t122 :: t123 :: t124 :: t125 :: t126 :: t127 :: t128 :: t129 :: t130 :: t131 :: t132 :: t133 :: t134 :: t135 :: t136 :: t137 :: t138 :: t139 :: t140 :: t141 :: t142 :: t143 :: t144 :: t145 :: t146 :: t147 :: t148 :: t149 :: t150 :: t151 :: t152 :: t153 :: t154 :: t155 :: t156 :: t157 :: t158 :: t159 :: t160 :: t161 :: t162 :: t163 :: t164 :: t165 :: t166 :: t167 :: t168 :: t169 :: t170 :: t171 :: []).toArray, []⟩ w := by
  conv => arg 2; arg 1; whnf
  have h1' : w.heap[gu]? = some (.cells (bI (cut (mixS T) (4 * 0))) 3 (0, 0)) := h1.trans (by
    have e : bI (fun _ => 0) = bI (cut (mixS T) (4 * 0)) := bI_congr fun i _ => by simp [cut]
    rw [e])
  clear h1
  go_loopg [15] 4 (fun q rr wr => ∃ k : Nat, k + q = 4 ∧ rr = .int .i64 (k : Int) ∧ wr.heap[gt]? = some (.cells (bI (T)) 3 (0, 0)) ∧ wr.heap[gu]? = some (.cells (bI (cut (mixS T) (4 * k))) 3 (0, 0)) ∧ wr.heap[g]? = some (.cells (bI (S)) 3 (0, 0)) ∧ Below wb.heap.size wb wr)
  case atStart => exact ⟨0, rfl, rfl, h0, h1', h2, hb⟩
  case round =>
    clear h0 h1' h2 hb
    obtain ⟨k, hk, rfl, h0, h1, h2, hb⟩ := hrel
    have HK := hid hk; have H0 := hid h0; have H1 := hid h1; have H2 := hid h2; have HB := hid hb
    have HGT := hid hgt; have HGU := hid hgu; have HGG := hid hgg; have HNE := hid hne; have HNE2 := hid hne2
    have hk4 : k ≤ 4 := by omega
    clear hk h0 h1 h2 hb hgt hgu hgg hne hne2
    by_cases hlt : k < 4
    · have hx : (k : Int) < 4 := by omega
      clear hexit
      go_wp2
      refine blk11_l6 A' Ab Aw c' cb cw g ky wb wr k gt gu S T _ _ _ _ _ _ _ _ _ _ _ _ _ _ _ _ _ _ _ _ _ _ _ _ _ _ _ _ _ _ _ _ _ _ _ _ _ _ _ _ _ _ _ _ _ _ _ _ _ _ _ _ _ _ _ _ _ _ _ _ _ _ _ _ _ _ _ _ _ _ _ _ _ _ _ _ _ _ _ _ _ _ _ _ _ _ _ _ _ _ _ _ _ _ _ _ _ _ _ _ _ _ _ _ _ _ _ _ _ _ _ _ _ _ _ _ _ _ _ _ _ _ _ _ _ _ _ _ _ _ _ _ _ _ _ _ _ _ _ _ _ _ _ _ _ _ _ _ _ _ _ _ _ _ _ _ _ _ _ _ _ _ _ _ hlt hT HGT.out HGU.out HGG.out HNE.out HNE2.out H0.out H1.out H2.out HB.out ?_
      intro w2 u85 u86 u87 u88 u89 u90 u91 u92 u93 u94 u95 u96 u97 u98 u99 u100 u101 u102 u103 u104 u105 u106 u107 u108 u109 u110 u111 u112 u113 u114 u115 u116 u117 u118 u119 u120 u121 u122 u123 u124 u125 u126 u127 u128 u129 u130 u131 u132 u133 k0 k1 k2 k3
      have K0 := hid k0; have K1 := hid k1; have K2 := hid k2; have K3 := hid k3
      have hwi : IntKind.i64.wrap ((k : Int) + 1) = ((k + 1 : Nat) : Int) := (IntWalk.i64_in _ (by omega)).trans (by omega)
      clear k0 k1 k2 k3
      go_wp2
      have hk := HK.out
      go_roundg (4 - k - 1)
      case measure => omega
      case rel => exact ⟨k + 1, by omega, rfl, K0.out, K1.out, K2.out, K3.out⟩
    · have hke : k = 4 := by omega
      subst hke
      have K1 : Hid (wr.heap[gu]? = some (.cells (bI (mixS T)) 3 (0, 0))) := hid (H1.out.trans (by
        have e : bI (cut (mixS T) (4 * 4)) = bI (mixS T) := bI_congr fun i hi => by unfold cut; rw [if_pos (by omega)]
        rw [e]))
      have hx : ¬ ((4 : Nat) : Int) < 4 := by omega
      clear hx
      go_wp2
      exact hexit _ _ _ _ _ _ _ _ _ _ _ _ _ _ _ _ _ _ _ _ _ _ _ _ _ _ _ _ _ _ _ _ _ _ _ _ _ _ _ _ _ _ _ _ _ _ _ _ _ _ _ _ _ _ _ K1.out H2.out HB.out
end Go.Proofs.Ytfjcedfjfadfpaa
