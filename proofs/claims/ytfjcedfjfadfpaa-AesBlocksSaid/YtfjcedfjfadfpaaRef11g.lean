/-
  The document's layer 11, a block sealed: its beginning.
-/
import Derived.Test.YtfjcedfjfadfpaaRef11f
namespace Go.Proofs.Ytfjcedfjfadfpaa
open Go.RowKit
set_option linter.unusedVariables false
set_option linter.unusedSimpArgs false

set_option maxRecDepth 100000 in
set_option maxHeartbeats 4000000 in
theorem blk11_l1 {Q : Exit → Act → World → Prop} (A' Ab Aw : Option Addr) (c' cb cw g : Nat) (ky : Nat → Nat) (wb w : World) (blk : List UInt8) (t0 t3 t4 t5 t6 t10 t11 t12 t13 t14 t15 t16 t17 t18 t19 t20 t21 t22 t23 t24 t25 t26 t27 t28 t29 t30 t31 t32 t33 t34 t35 t36 t37 t38 t39 t40 t41 t42 t43 t44 t45 t46 t47 t48 t49 t50 t51 t52 t53 t54 t55 t56 t57 t58 t59 t60 t61 t62 t63 t64 t65 t66 t67 t68 t69 t70 t71 t72 t73 t74 t75 t76 t77 t78 t79 t80 t81 t82 t83 t84 t85 t86 t87 t88 t89 t90 t91 t92 t93 t94 t95 t96 t97 t98 t99 t100 t101 t102 t103 t104 t105 t106 t107 t108 t109 t110 t111 t112 t113 t114 t115 t116 t117 t118 t119 t120 t121 t122 t123 t124 t125 t126 t127 t128 t129 t130 t131 t132 t133 t134 t135 t136 t137 t138 t139 t140 t141 t142 t143 t144 t145 t146 t147 t148 t149 t150 t151 t152 t153 t154 t155 t156 t157 t158 t159 t160 t161 t162 t163 t164 t165 t166 t167 t168 t169 t170 t171 : Value) (hblk : blk.length = 16) (hA : Lie wb wb.heap.size A' (bvs blk)) (hc' : 16 ≤ c' ∧ c' ≤ 9223372036854775807) (hW : ∀ j, j < 44 → RowAt wb Aw 44 cw ky j) (hky : ∀ i, ky i < 256) (hg : wb.heap.size ≤ g) (h0 : w.heap[g]? = some (.cells (bI fun _ => 0) 3 (0, 0))) (hb : Below wb.heap.size wb w)
    (hexit : ∀ (w' : World) (u24 u25 u26 u27 u28 u29 u30 u31 u32 u33 u34 u35 u36 u37 u38 u39 u40 u41 u42 u43 u44 u45 : Value), w'.heap[g]? = some (.cells (bI fun i => bf blk i ^^^ kW ky 0 i) 3 (0, 0)) → Below wb.heap.size wb w' → Q (.exit 0) ⟨(t0 :: (.slice A' 16 c') :: (.slice Ab 256 cb) :: t3 :: t4 :: t5 :: t6 :: (.slice Aw 44 cw) :: (.slice (some ⟨g, 0, none⟩) 16 16) :: (.int .i64 16) :: t10 :: t11 :: t12 :: t13 :: t14 :: t15 :: t16 :: t17 :: t18 :: t19 :: t20 :: t21 :: t22 :: t23 :: u24 :: u25 :: u26 :: u27 :: u28 :: u29 :: u30 :: u31 :: u32 :: u33 :: u34 :: u35 :: u36 :: u37 :: u38 :: u39 :: u40 :: u41 :: u42 :: u43 :: u44 :: u45 :: t46 :: t47 :: t48 :: t49 :: t50 :: t51 :: t52 :: t53 :: t54 :: t55 :: t56 :: t57 :: t58 :: t59 :: t60 :: t61 :: t62 :: t63 :: t64 :: t65 :: t66 :: t67 :: t68 :: t69 :: t70 :: t71 :: t72 :: t73 :: t74 :: t75 :: t76 :: t77 :: t78 :: t79 :: t80 :: t81 :: t82 :: t83 :: t84 :: t85 :: t86 :: t87 :: t88 :: t89 :: t90 :: t91 :: t92 :: t93 :: t94 :: t95 :: t96 :: t97 :: t98 :: t99 :: t100 :: t101 :: t102 :: t103 :: t104 :: t105 :: t106 :: t107 :: t108 :: t109 :: t110 :: t111 :: t112 :: t113 :: t114 :: t115 :: t116 :: t117 :: t118 :: t119 :: t120 :: t121 :: t122 :: t123 :: t124 :: t125 :: t126 :: t127 :: t128 :: t129 :: t130 :: t131 :: t132 :: t133 :: t134 :: t135 :: t136 :: t137 :: t138 :: t139 :: t140 :: t141 :: t142 :: t143 :: t144 :: t145 :: t146 :: t147 :: t148 :: t149 :: t150 :: t151 :: t152 :: t153 :: t154 :: t155 :: t156 :: t157 :: t158 :: t159 :: t160 :: t161 :: t162 :: t163 :: t164 :: t165 :: t166 :: t167 :: t168 :: t169 :: t170 :: t171 :: []).toArray, []⟩ w') :
    Code.wp Try.prog (Code.loop (loopN Try.f16 0)) Q ⟨(t0 :: (.slice A' 16 c') :: (.slice Ab 256 cb) :: t3 :: t4 :: t5 :: t6 :: (.slice Aw 44 cw) :: (.slice (some ⟨g, 0, none⟩) 16 16) :: (.int .i64 0) :: t10 :: t11 :: t12 :: t13 :: t14 :: t15 :: t16 :: t17 :: t18 :: t19 :: t20 :: t21 :: t22 :: t23 :: t24 :: t25 :: t26 :: t27 :: t28 :: t29 :: t30 :: t31 :: t32 :: t33 :: t34 :: t35 :: t36 :: t37 :: t38 :: t39 :: t40 :: t41 :: t42 :: t43 :: t44 :: t45 :: t46 :: t47 :: t48 :: t49 :: t50 :: t51 :: t52 :: t53 :: t54 :: t55 :: t56 :: t57 :: t58 :: t59 :: t60 :: t61 :: t62 :: t63 :: t64 :: t65 :: t66 :: t67 :: t68 :: t69 :: t70 :: t71 :: t72 :: t73 :: t74 :: t75 :: t76 :: t77 :: t78 :: t79 :: t80 :: t81 :: t82 :: t83 :: t84 :: t85 :: t86 :: t87 :: t88 :: t89 :: t90 :: t91 :: t92 :: t93 :: t94 :: t95 :: t96 :: t97 :: t98 :: t99 :: t100 :: t101 :: t102 :: t103 :: t104 :: t105 :: t106 :: t107 :: t108 :: t109 :: t110 :: t111 :: t112 :: t113 :: t114 :: t115 :: t116 :: t117 :: t118 :: t119 :: t120 :: t121 :: t122 :: t123 :: t124 :: t125 :: t126 :: t127 :: t128 :: t129 :: t130 :: t131 :: t132 :: t133 :: t134 :: t135 :: t136 :: t137 :: t138 :: t139 :: t140 :: t141 :: t142 :: t143 :: t144 :: t145 :: t146 :: t147 :: t148 :: t149 :: t150 :: t151 :: t152 :: t153 :: t154 :: t155 :: t156 :: t157 :: t158 :: t159 :: t160 :: t161 :: t162 :: t163 :: t164 :: t165 :: t166 :: t167 :: t168 :: t169 :: t170 :: t171 :: []).toArray, []⟩ w := by
  conv => arg 2; arg 1; whnf
  have HA := hid hA; have HW := hid hW; have HBLK := hid hblk; have HG := hid hg; have HKY := hid hky
  have h0' : w.heap[g]? = some (.cells (bI fun j => if j < 0 then bf blk j ^^^ kW ky 0 j else 0) 3 (0, 0)) := h0
  clear hA hW hblk hg h0
  go_loopg [9] 16 (fun r ii wr => ∃ k : Nat, k + r = 16 ∧ ii = .int .i64 (k : Int) ∧ wr.heap[g]? = some (.cells (bI fun j => if j < k then bf blk j ^^^ kW ky 0 j else 0) 3 (0, 0)) ∧ Below wb.heap.size wb wr)
  case atStart => exact ⟨0, rfl, rfl, h0', hb⟩
  case round =>
    clear h0' hb hky
    obtain ⟨k, hk, rfl, hrow, hb⟩ := hrel
    have HK := hid hk; have HR := hid hrow; have HB := hid hb
    have hk16 : k ≤ 16 := by omega
    clear hk hrow hb
    by_cases hlt : k < 16
    · have hx : (k : Int) < 16 := by omega
      have hk0 : (0 : Int) ≤ (k : Int) := by omega
      clear hexit
      obtain ⟨gb, ob, rfl, hgb, hcell⟩ := (HA.out.below HB.out).byte (k := k) (by rw [HBLK.out]; omega)
      have hyb := bf_at blk k (by rw [HBLK.out]; omega)
      obtain ⟨y, hy⟩ : ∃ y, y = bf blk k := ⟨_, rfl⟩
      rw [← hyb, ← hy] at hcell
      have hyl : y < 256 := by rw [hy]; exact bf_lt blk k
      have hyw : IntKind.i64.wrap (y : Int) = (y : Int) := IntWalk.i64_in _ (by omega)
      obtain ⟨q, hq⟩ : ∃ q, q = k / 4 := ⟨_, rfl⟩
      obtain ⟨r, hr⟩ : ∃ r, r = k % 4 := ⟨_, rfl⟩
      obtain ⟨hq1, hq2, hqw⟩ := quo4 hq (by omega)
      obtain ⟨hr1, hr2, hrw⟩ := rem4 hr (by omega)
      have hq44 : (q : Int) < 44 := by omega
      have hq0 : (0 : Int) ≤ (q : Int) := by omega
      have hr4 : (r : Int) < 4 := by omega
      have hr0 : (0 : Int) ≤ (r : Int) := by omega
      obtain ⟨b1, A1, c1, rfl, hcw, hcw2, hb1, hc1, ⟨g1, rfl, hg1, hd1⟩, hcap1⟩ := HW.out q (by omega)
      have hc1r := (HB.out.cell (p := ⟨b1, q, none⟩) hb1).trans hc1
      have hd1r := (HB.out.cell (p := ⟨g1, r, none⟩) hg1).trans (hd1 r (by omega))
      obtain ⟨x, hxx⟩ : ∃ x, x = dwW ky q r := ⟨_, rfl⟩
      rw [← hxx] at hd1r
      have hxl : x < 256 := by rw [hxx]; exact dwW_lt HKY.out _ _
      have hxe : x = kW ky 0 k := by rw [kW_dw ky 0 k hlt, hxx, hq, hr, Nat.mul_zero, Nat.zero_add]
      have hxor := i64_xor_nat' y x (by omega) (by omega)
      obtain ⟨z, hz⟩ : ∃ z, z = y ^^^ x := ⟨_, rfl⟩
      rw [← hz] at hxor
      have hct : wr.cell? ⟨g, k, none⟩ = some (.int .i64 ((0 : Nat) : Int)) := cell_of HR.out k _ (by rw [bI_get _ k hlt, if_neg (Nat.lt_irrefl k)])
      have hft : wr.frozen? ⟨g, k, none⟩ = false := frozen_of_row _ _ _ _ _ HR.out
      have hwi : IntKind.i64.wrap ((k : Int) + 1) = ((k + 1 : Nat) : Int) := (IntWalk.i64_in _ (by omega)).trans (by omega)
      have HWr : Hid ((wr.setCell ⟨g, k, none⟩ (.int .i64 (z : Int))).heap[g]? = some (.cells (bI fun j => if j < k + 1 then bf blk j ^^^ kW ky 0 j else 0) 3 (0, 0))) := hid ((block_set HR.out k _).trans (by
        rw [bI_set _ _ _ hlt]
        have e : bI (fun q => if q = k then z else if q < k then bf blk q ^^^ kW ky 0 q else 0) = bI (fun j => if j < k + 1 then bf blk j ^^^ kW ky 0 j else 0) := bI_congr fun i _ => by
          by_cases h : i = k
          · rw [if_pos h, if_pos (by omega), hz, hy, hxe, h]
          · rw [if_neg h]
            by_cases h2 : i < k
            · rw [if_pos h2, if_pos (by omega)]
            · rw [if_neg h2, if_neg (by omega)]
        rw [e]))
      clear hy hyb hyl hq hr hxx hxl hxe hz hc1 hd1 hb1 hg1 hcap1
      go_wp2
      refine wp_region_still_tail 17 (by kernel_rfl) (by kernel_rfl) ?_
      simp only [List.take_succ_cons, List.take_zero, List.drop_succ_cons, List.drop_zero]
      repeat still_step
      refine wpStill_nil ?_
      change wpList _ _ _ _ _ wr.drew
      go_wp2
      have hk := HK.out
      go_roundg (16 - k - 1)
      case measure => omega
      case rel => exact ⟨k + 1, by omega, rfl, HWr.out, still_drew (HB.out.setCell HG.out _)⟩
    · have hke : k = 16 := by omega
      have HRe : Hid (wr.heap[g]? = some (.cells (bI fun i => bf blk i ^^^ kW ky 0 i) 3 (0, 0))) := hid (HR.out.trans (by
        have e : bI (fun j => if j < k then bf blk j ^^^ kW ky 0 j else 0) = bI (fun i => bf blk i ^^^ kW ky 0 i) := bI_congr fun i hi => if_pos (by omega)
        rw [e]))
      subst hke
      have hx : ¬ ((16 : Nat) : Int) < 16 := by omega
      clear hx
      go_wp2
      exact hexit _ _ _ _ _ _ _ _ _ _ _ _ _ _ _ _ _ _ _ _ _ _ _ HRe.out HB.out
end Go.Proofs.Ytfjcedfjfadfpaa
