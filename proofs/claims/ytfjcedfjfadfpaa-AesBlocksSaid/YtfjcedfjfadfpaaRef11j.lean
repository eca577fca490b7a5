/-
  The document's layer 11, a block sealed: held against the words.
-/
import Derived.Test.YtfjcedfjfadfpaaRef11f
namespace Go.Proofs.Ytfjcedfjfadfpaa
open Go.RowKit
set_option linter.unusedVariables false
set_option linter.unusedSimpArgs false

set_option maxRecDepth 100000 in
set_option maxHeartbeats 4000000 in
theorem blk11_l7 {Q : Exit → Act → World → Prop} (A' Ab Aw : Option Addr) (c' cb cw g : Nat) (ky : Nat → Nat) (wb w : World) (n gt : Nat) (S T : Nat → Nat) (t0 t3 t4 t5 t6 t9 t12 t13 t14 t15 t16 t18 t19 t20 t21 t22 t23 t24 t25 t26 t27 t28 t29 t30 t31 t32 t33 t34 t35 t36 t37 t38 t39 t40 t41 t42 t43 t44 t45 t46 t47 t48 t49 t50 t51 t52 t53 t54 t55 t56 t57 t58 t59 t60 t61 t62 t63 t64 t65 t66 t67 t68 t69 t70 t71 t72 t73 t74 t75 t76 t77 t78 t79 t80 t81 t82 t83 t84 t85 t86 t87 t88 t89 t90 t91 t92 t93 t94 t95 t96 t97 t98 t99 t100 t101 t102 t103 t104 t105 t106 t107 t108 t109 t110 t111 t112 t113 t114 t115 t116 t117 t118 t119 t120 t121 t122 t123 t124 t125 t126 t127 t128 t129 t130 t131 t132 t133 t134 t135 t136 t137 t138 t139 t140 t141 t142 t143 t144 t145 t146 t147 t148 t149 t150 t151 t152 t153 t154 t155 t156 t157 t158 t159 t160 t161 t162 t163 t164 t165 t166 t167 t168 t169 t170 t171 : Value) (hn : n ≤ 10) (hT : ∀ i, T i < 256) (hW : ∀ j, j < 44 → RowAt wb Aw 44 cw ky j) (hky : ∀ i, ky i < 256) (hg : wb.heap.size ≤ g) (hne : gt ≠ g) (h0 : w.heap[g]? = some (.cells (bI (S)) 3 (0, 0))) (h1 : w.heap[gt]? = some (.cells (bI (T)) 3 (0, 0))) (hb : Below wb.heap.size wb w)
    (hexit : ∀ (w' : World) (u135 u136 u137 u138 u139 u140 u141 u142 u143 u144 u145 u146 u147 u148 u149 u150 u151 u152 u153 u154 u155 u156 u157 u158 : Value), w'.heap[g]? = some (.cells (bI (fun i => T i ^^^ kW ky n i)) 3 (0, 0)) → Below wb.heap.size wb w' → Q (.exit 12) ⟨(t0 :: (.slice A' 16 c') :: (.slice Ab 256 cb) :: t3 :: t4 :: t5 :: t6 :: (.slice Aw 44 cw) :: (.slice (some ⟨g, 0, none⟩) 16 16) :: t9 :: (.int .i64 (n : Int)) :: (.slice (some ⟨gt, 0, none⟩) 16 16) :: t12 :: t13 :: t14 :: t15 :: t16 :: (.int .i64 16) :: t18 :: t19 :: t20 :: t21 :: t22 :: t23 :: t24 :: t25 :: t26 :: t27 :: t28 :: t29 :: t30 :: t31 :: t32 :: t33 :: t34 :: t35 :: t36 :: t37 :: t38 :: t39 :: t40 :: t41 :: t42 :: t43 :: t44 :: t45 :: t46 :: t47 :: t48 :: t49 :: t50 :: t51 :: t52 :: t53 :: t54 :: t55 :: t56 :: t57 :: t58 :: t59 :: t60 :: t61 :: t62 :: t63 :: t64 :: t65 :: t66 :: t67 :: t68 :: t69 :: t70 :: t71 :: t72 :: t73 :: t74 :: t75 :: t76 :: t77 :: t78 :: t79 :: t80 :: t81 :: t82 :: t83 :: t84 :: t85 :: t86 :: t87 :: t88 :: t89 :: t90 :: t91 :: t92 :: t93 :: t94 :: t95 :: t96 :: t97 :: t98 :: t99 :: t100 :: t101 :: t102 :: t103 :: t104 :: t105 :: t106 :: t107 :: t108 :: t109 :: t110 :: t111 :: t112 :: t113 :: t114 :: t115 :: t116 :: t117 :: t118 :: t119 :: t120 :: t121 :: t122 :: t123 :: t124 :: t125 :: t126 :: t127 :: t128 :: t129 :: t130 :: t131 :: t132 :: t133 :: t134 :: u135 :: u136 :: u137 :: u138 :: u139 :: u140 :: u141 :: u142 :: u143 :: u144 :: u145 :: u146 :: u147 :: u148 :: u149 :: u150 :: u151 :: u152 :: u153 :: u154 :: u155 :: u156 :: u157 :: u158 :: t159 :: t160 :: t161 :: t162 :: t163 :: t164 :: t165 :: t166 :: t167 :: t168 :: t169 :: t170 :: t171 :: []).toArray, []⟩ w') :
    Code.wp Try.prog (Code.loop (loopN Try.f16 6)) Q ⟨(t0 :: (.slice A' 16 c') :: (.slice Ab 256 cb) :: t3 :: t4 :: t5 :: t6 :: (.slice Aw 44 cw) :: (.slice (some ⟨g, 0, none⟩) 16 16) :: t9 :: (.int .i64 (n : Int)) :: (.slice (some ⟨gt, 0, none⟩) 16 16) :: t12 :: t13 :: t14 :: t15 :: t16 :: (.int .i64 0) :: t18 :: t19 :: t20 :: t21 :: t22 :: t23 :: t24 :: t25 :: t26 :: t27 :: t28 :: t29 :: t30 :: t31 :: t32 :: t33 :: t34 :: t35 :: t36 :: t37 :: t38 :: t39 :: t40 :: t41 :: t42 :: t43 :: t44 :: t45 :: t46 :: t47 :: t48 :: t49 :: t50 :: t51 :: t52 :: t53 :: t54 :: t55 :: t56 :: t57 :: t58 :: t59 :: t60 :: t61 :: t62 :: t63 :: t64 :: t65 :: t66 :: t67 :: t68 :: t69 :: t70 :: t71 :: t72 :: t73 :: t74 :: t75 :: t76 :: t77 :: t78 :: t79 :: t80 :: t81 :: t82 :: t83 :: t84 :: t85 :: t86 :: t87 :: t88 :: t89 :: t90 :: t91 :: t92 :: t93 :: t94 :: t95 :: t96 :: t97 :: t98 :: t99 :: t100 :: t101 :: t102 :: t103 :: t104 :: t105 :: t106 :: t107 :: t108 :: t109 :: t110 :: t111 :: t112 :: t113 :: t114 :: t115 :: t116 :: t117 :: t118 :: t119 :: t120 :: t121 :: t122 :: t123 :: t124 :: t125 :: t126 :: t127 :: t128 :: t129 :: t130 :: t131 :: t132 :: t133 :: t134 :: t135 :: t136 :: t137 :: t138 :: t139 :: t140 :: t141 :: t142 :: t143 :: t144 :: t145 :: t146 :: t147 :: t148 :: t149 :: t150 :: t151 :: t152 :: t153 :: t154 :: t155 :: t156 :: t157 :: t158 :: t159 :: t160 :: t161 :: t162 :: t163 :: t164 :: t165 :: t166 :: t167 :: t168 :: t169 :: t170 :: t171 :: []).toArray, []⟩ w := by
  conv => arg 2; arg 1; whnf
  have HW := hid hW; have HG := hid hg; have HKY := hid hky; have HT := hid hT; have HN := hid hn; have HNE := hid hne
  have h0' : w.heap[g]? = some (.cells (bI (fun j => if j < 0 then T j ^^^ kW ky n j else S j)) 3 (0, 0)) := h0
  clear hW hg h0 hky hT hne
  go_loopg [17] 16 (fun r ii wr => ∃ k : Nat, k + r = 16 ∧ ii = .int .i64 (k : Int) ∧ wr.heap[g]? = some (.cells (bI (fun j => if j < k then T j ^^^ kW ky n j else S j)) 3 (0, 0)) ∧ wr.heap[gt]? = some (.cells (bI (T)) 3 (0, 0)) ∧ Below wb.heap.size wb wr)
  case atStart => exact ⟨0, rfl, rfl, h0', h1, hb⟩
  case round =>
    clear h0' h1 hb
    obtain ⟨k, hk, rfl, hrow, h1, hb⟩ := hrel
    have HK := hid hk; have HR := hid hrow; have H1 := hid h1; have HB := hid hb
    have hk16 : k ≤ 16 := by omega
    clear hk hrow h1 hb
    by_cases hlt : k < 16
    · have hx : (k : Int) < 16 := by omega
      have hk0 : (0 : Int) ≤ (k : Int) := by omega
      clear hexit
      obtain ⟨y, hy⟩ : ∃ y, y = T k := ⟨_, rfl⟩
      have hyl : y < 256 := by rw [hy]; exact HT.out k
      have hcy : wr.cell? ⟨gt, k, none⟩ = some (.int .i64 (y : Int)) := cell_of H1.out k _ (by rw [bI_get _ k hlt, hy])
      obtain ⟨m, hm⟩ : ∃ m, m = 4 * n := ⟨_, rfl⟩
      obtain ⟨q0, hq0⟩ : ∃ q, q = k / 4 := ⟨_, rfl⟩
      obtain ⟨q, hq⟩ : ∃ q, q = m + q0 := ⟨_, rfl⟩
      obtain ⟨r, hr⟩ : ∃ r, r = k % 4 := ⟨_, rfl⟩
      have e1 := i64_4 hm (by omega)
      obtain ⟨hq1, hq2, hqw⟩ := quo4 hq0 (by omega)
      have e2 := i64_s hq (by omega)
      obtain ⟨hr1, hr2, hrw⟩ := rem4 hr (by omega)
      have hq44 : (q : Int) < 44 := by omega
      have hq0' : (0 : Int) ≤ (q : Int) := by omega
      have hr4 : (r : Int) < 4 := by omega
      have hr0 : (0 : Int) ≤ (r : Int) := by omega
      obtain ⟨b1, A1, c1, rfl, hcw, hcw2, hb1, hc1, ⟨g1, rfl, hg1, hd1⟩, hcap1⟩ := HW.out q (by omega)
      have hc1r := (HB.out.cell (p := ⟨b1, q, none⟩) hb1).trans hc1
      have hd1r := (HB.out.cell (p := ⟨g1, r, none⟩) hg1).trans (hd1 r (by omega))
      obtain ⟨x, hxx⟩ : ∃ x, x = dwW ky q r := ⟨_, rfl⟩
      rw [← hxx] at hd1r
      have hxl : x < 256 := by rw [hxx]; exact dwW_lt HKY.out _ _
      have hxe : x = kW ky n k := by rw [kW_dw ky n k hlt, hxx, hq, hr, hq0, hm]
      have hxor := i64_xor_nat' y x (by omega) (by omega)
      obtain ⟨z, hz⟩ : ∃ z, z = y ^^^ x := ⟨_, rfl⟩
      rw [← hz] at hxor
      have hct : wr.cell? ⟨g, k, none⟩ = some (.int .i64 ((S k : Nat) : Int)) := cell_of HR.out k _ (by rw [bI_get _ k hlt, if_neg (Nat.lt_irrefl k)])
      have hft : wr.frozen? ⟨g, k, none⟩ = false := frozen_of_row _ _ _ _ _ HR.out
      have hwi : IntKind.i64.wrap ((k : Int) + 1) = ((k + 1 : Nat) : Int) := (IntWalk.i64_in _ (by omega)).trans (by omega)
      have HWr : Hid ((wr.setCell ⟨g, k, none⟩ (.int .i64 (z : Int))).heap[g]? = some (.cells (bI fun j => if j < k + 1 then T j ^^^ kW ky n j else S j) 3 (0, 0))) := hid ((block_set HR.out k _).trans (by
        rw [bI_set _ _ _ hlt]
        have e : bI (fun q => if q = k then z else if q < k then T q ^^^ kW ky n q else S q) = bI (fun j => if j < k + 1 then T j ^^^ kW ky n j else S j) := bI_congr fun i _ => by
          by_cases h : i = k
          · rw [if_pos h, if_pos (by omega), hz, hy, hxe, h]
          · rw [if_neg h]
            by_cases h2 : i < k
            · rw [if_pos h2, if_pos (by omega)]
            · rw [if_neg h2, if_neg (by omega)]
        rw [e]))
      have H1' : Hid ((wr.setCell ⟨g, k, none⟩ (.int .i64 (z : Int))).heap[gt]? = some (.cells (bI T) 3 (0, 0))) := hid ((heap_setCell_other _ _ _ _ (by simpa using HNE.out)).trans H1.out)
      clear hy hyl hq hq0 hm hr hxx hxl hxe hz hc1 hd1 hb1 hg1 hcap1 hn
      go_wp2
      refine wp_region_still_tail 19 (by kernel_rfl) (by kernel_rfl) ?_
      simp only [List.take_succ_cons, List.take_zero, List.drop_succ_cons, List.drop_zero]
      repeat still_step
      refine wpStill_nil ?_
      change wpList _ _ _ _ _ wr.drew
      go_wp2
      have hk := HK.out
      go_roundg (16 - k - 1)
      case measure => omega
      case rel => exact ⟨k + 1, by omega, rfl, HWr.out, H1'.out, still_drew (HB.out.setCell HG.out _)⟩
    · have hke : k = 16 := by omega
      have HRe : Hid (wr.heap[g]? = some (.cells (bI (fun i => T i ^^^ kW ky n i)) 3 (0, 0))) := hid (HR.out.trans (by
        have e : bI (fun j => if j < k then T j ^^^ kW ky n j else S j) = bI (fun i => T i ^^^ kW ky n i) := bI_congr fun i hi => if_pos (by omega)
        rw [e]))
      subst hke
      have hx : ¬ ((16 : Nat) : Int) < 16 := by omega
      clear hx
      go_wp2
      exact hexit _ _ _ _ _ _ _ _ _ _ _ _ _ _ _ _ _ _ _ _ _ _ _ _ _ HRe.out HB.out
end Go.Proofs.Ytfjcedfjfadfpaa
