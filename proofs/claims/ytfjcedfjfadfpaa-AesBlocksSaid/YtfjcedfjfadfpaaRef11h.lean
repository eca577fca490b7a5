/-
  The document's layer 11, a block sealed: rows turned.
-/
import Derived.Test.YtfjcedfjfadfpaaRef11f
namespace Go.Proofs.Ytfjcedfjfadfpaa
open Go.RowKit
set_option linter.unusedVariables false
set_option linter.unusedSimpArgs false

/-- Rows turned so far. -/
def tq (S : Nat → Nat) (r k j : Nat) : Nat := if j % 4 < r ∨ j % 4 = r ∧ j / 4 < k then tur (boxS S) j else 0
set_option maxRecDepth 100000 in
set_option maxHeartbeats 4000000 in
theorem blk11_l4 {Q : Exit → Act → World → Prop} (A' Ab Aw : Option Addr) (c' cb cw g : Nat) (ky : Nat → Nat) (wb w : World) (r gt : Nat) (S : Nat → Nat) (t0 t3 t4 t5 t6 t9 t10 t14 t15 t16 t17 t18 t19 t20 t21 t22 t23 t24 t25 t26 t27 t28 t29 t30 t31 t32 t33 t34 t35 t36 t37 t38 t39 t40 t41 t42 t43 t44 t45 t46 t47 t48 t49 t50 t51 t52 t53 t54 t55 t56 t57 t58 t59 t60 t61 t62 t63 t64 t65 t66 t67 t68 t69 t70 t71 t72 t73 t74 t75 t76 t77 t78 t79 t80 t81 t82 t83 t84 t85 t86 t87 t88 t89 t90 t91 t92 t93 t94 t95 t96 t97 t98 t99 t100 t101 t102 t103 t104 t105 t106 t107 t108 t109 t110 t111 t112 t113 t114 t115 t116 t117 t118 t119 t120 t121 t122 t123 t124 t125 t126 t127 t128 t129 t130 t131 t132 t133 t134 t135 t136 t137 t138 t139 t140 t141 t142 t143 t144 t145 t146 t147 t148 t149 t150 t151 t152 t153 t154 t155 t156 t157 t158 t159 t160 t161 t162 t163 t164 t165 t166 t167 t168 t169 t170 t171 : Value) (hr : r < 4) (hS : ∀ i, S i < 256) (hBox : Ints wb wb.heap.size Ab cb boxN 256) (hg : wb.heap.size ≤ g) (hgt : wb.heap.size ≤ gt) (hne : g ≠ gt) (h0 : w.heap[g]? = some (.cells (bI (S)) 3 (0, 0))) (h1 : w.heap[gt]? = some (.cells (bI (tq S r 0)) 3 (0, 0))) (hb : Below wb.heap.size wb w)
    (hexit : ∀ (w' : World) (u55 u56 u57 u58 u59 u60 u61 u62 u63 u64 u65 u66 u67 u68 u69 u70 u71 u72 u73 u74 u75 u76 u77 : Value), w'.heap[g]? = some (.cells (bI (S)) 3 (0, 0)) → w'.heap[gt]? = some (.cells (bI (tq S r 4)) 3 (0, 0)) → Below wb.heap.size wb w' → Q (.exit 6) ⟨(t0 :: (.slice A' 16 c') :: (.slice Ab 256 cb) :: t3 :: t4 :: t5 :: t6 :: (.slice Aw 44 cw) :: (.slice (some ⟨g, 0, none⟩) 16 16) :: t9 :: t10 :: (.slice (some ⟨gt, 0, none⟩) 16 16) :: (.int .i64 (r : Int)) :: (.int .i64 4) :: t14 :: t15 :: t16 :: t17 :: t18 :: t19 :: t20 :: t21 :: t22 :: t23 :: t24 :: t25 :: t26 :: t27 :: t28 :: t29 :: t30 :: t31 :: t32 :: t33 :: t34 :: t35 :: t36 :: t37 :: t38 :: t39 :: t40 :: t41 :: t42 :: t43 :: t44 :: t45 :: t46 :: t47 :: t48 :: t49 :: t50 :: t51 :: t52 :: t53 :: t54 :: u55 :: u56 :: u57 :: u58 :: u59 :: u60 :: u61 :: u62 :: u63 :: u64 :: u65 :: u66 :: u67 :: u68 :: u69 :: u70 :: u71 :: u72 :: u73 :: u74 :: u75 :: u76 :: u77 :: t78 :: t79 :: t80 :: t81 :: t82 :: t83 :: t84 :: t85 :: t86 :: t87 :: t88 :: t89 :: t90 :: t91 :: t92 :: t93 :: t94 :: t95 :: t96 :: t97 :: t98 :: t99 :: t100 :: t101 :: t102 :: t103 :: t104 :: t105 :: t106 :: t107 :: t108 :: t109 :: t110 :: t111 :: t112 :: t113 :: t114 :: t115 :: t116 :: t117 :: t118 :: t119 :: t120 :: t121 :: t122 :: t123 :: t124 :: t125 :: t126 :: t127 :: t128 :: t129 :: t130 :: t131 :: t132 :: t133 :: t134 :: t135 :: t136 :: t137 :: t138 :: t139 :: t140 :: t141 :: t142 :: t143 :: t144 :: t145 :: t146 :: t147 :: t148 :: t149 :: t150 :: t151 :: t152 :: t153 :: t154 :: t155 :: t156 :: t157 :: t158 :: t159 :: t160 :: t161 :: t162 :: t163 :: t164 :: t165 :: t166 :: t167 :: t168 :: t169 :: t170 :: t171 :: []).toArray, []⟩ w') :
    Code.wp Try.prog (Code.loop (loopN Try.f16 3)) Q ⟨(t0 :: (.slice A' 16 c') :: (.slice Ab 256 cb) :: t3 :: t4 :: t5 :: t6 :: (.slice Aw 44 cw) :: (.slice (some ⟨g, 0, none⟩) 16 16) :: t9 :: t10 :: (.slice (some ⟨gt, 0, none⟩) 16 16) :: (.int .i64 (r : Int)) :: (.int .i64 0) :: t14 :: t15 :: t16 :: t17 :: t18 :: t19 :: t20 :: t21 :: t22 :: t23 :: t24 :: t25 :: t26 :: t27 :: t28 :: t29 :: t30 :: t31 :: t32 :: t33 :: t34 :: t35 :: t36 :: t37 :: t38 :: t39 :: t40 :: t41 :: t42 :: t43 :: t44 :: t45 :: t46 :: t47 :: t48 :: t49 :: t50 :: t51 :: t52 :: t53 :: t54 :: t55 :: t56 :: t57 :: t58 :: t59 :: t60 :: t61 :: t62 :: t63 :: t64 :: t65 :: t66 :: t67 :: t68 :: t69 :: t70 :: t71 :: t72 :: t73 :: t74 :: t75 :: t76 :: t77 :: t78 :: t79 :: t80 :: t81 :: t82 :: t83 :: t84 :: t85 :: t86 :: t87 :: t88 :: t89 :: t90 :: t91 :: t92 :: t93 :: t94 :: t95 :: t96 :: t97 :: t98 :: t99 :: t100 :: t101 :: t102 :: t103 :: t104 :: t105 :: t106 :: t107 :: t108 :: t109 :: t110 :: t111 :: t112 :: t113 :: t114 :: t115 :: t116 :: t117 :: t118 :: t119 :: t120 :: t121 :: t122 :: t123 :: t124 :: t125 :: t126 :: t127 :: t128 :: t129 :: t130 :: t131 :: t132 :: t133 :: t134 :: t135 :: t136 :: t137 :: t138 :: t139 :: t140 :: t141 :: t142 :: t143 :: t144 :: t145 :: t146 :: t147 :: t148 :: t149 :: t150 :: t151 :: t152 :: t153 :: t154 :: t155 :: t156 :: t157 :: t158 :: t159 :: t160 :: t161 :: t162 :: t163 :: t164 :: t165 :: t166 :: t167 :: t168 :: t169 :: t170 :: t171 :: []).toArray, []⟩ w := by
  conv => arg 2; arg 1; whnf
  have HBX := hid hBox; have HS := hid hS; have HR := hid hr; have HG := hid hg; have HGT := hid hgt; have HNE := hid hne
  clear hBox hS hg hgt hne
  go_loopg [13] 4 (fun q cc wr => ∃ k : Nat, k + q = 4 ∧ cc = .int .i64 (k : Int) ∧ wr.heap[g]? = some (.cells (bI (S)) 3 (0, 0)) ∧ wr.heap[gt]? = some (.cells (bI (tq S r k)) 3 (0, 0)) ∧ Below wb.heap.size wb wr)
  case atStart => exact ⟨0, rfl, rfl, h0, h1, hb⟩
  case round =>
    clear h0 h1 hb
    obtain ⟨k, hk, rfl, h0, h1, hb⟩ := hrel
    have HK := hid hk; have H0 := hid h0; have H1 := hid h1; have HB := hid hb
    have hk4 : k ≤ 4 := by omega
    clear hk h0 h1 hb
    by_cases hlt : k < 4
    · have hx : (k : Int) < 4 := by omega
      clear hexit
      obtain ⟨m, hm⟩ : ∃ m, m = 4 * k := ⟨_, rfl⟩
      obtain ⟨q, hq⟩ : ∃ q, q = r + m := ⟨_, rfl⟩
      obtain ⟨cr, hcr⟩ : ∃ x, x = k + r := ⟨_, rfl⟩
      obtain ⟨cm, hcm⟩ : ∃ x, x = cr % 4 := ⟨_, rfl⟩
      obtain ⟨m2, hm2⟩ : ∃ x, x = 4 * cm := ⟨_, rfl⟩
      obtain ⟨q2, hq2⟩ : ∃ x, x = r + m2 := ⟨_, rfl⟩
      have e1 := i64_4 hm (by omega)
      have e2 := i64_s hq (by omega)
      have e3 := i64_s hcr (by omega)
      obtain ⟨e4, e5, e6⟩ := rem4 hcm (by omega)
      have e7 := i64_4 hm2 (by omega)
      have e8 := i64_s hq2 (by omega)
      have q16 : (q : Int) < 16 := by omega
      have q0 : (0 : Int) ≤ (q : Int) := by omega
      have q216 : (q2 : Int) < 16 := by omega
      have q20 : (0 : Int) ≤ (q2 : Int) := by omega
      obtain ⟨x, hxx⟩ : ∃ x, x = S q2 := ⟨_, rfl⟩
      have hxl : x < 256 := by rw [hxx]; exact HS.out q2
      have hx256 : (x : Int) < 256 := by omega
      have hx0 : (0 : Int) ≤ (x : Int) := by omega
      obtain ⟨⟨gB, rfl, hgB, hcB⟩, hcapB⟩ := HBX.out
      have hbx := (HB.out.cell (p := ⟨gB, x, none⟩) hgB).trans (hcB x hxl)
      obtain ⟨y, hy⟩ : ∃ y, y = boxN x := ⟨_, rfl⟩
      rw [← hy] at hbx
      have hyt : y = tur (boxS S) q := by
        rw [hy, hxx, hq2, hm2, hcm, hcr]
        unfold tur boxS
        rw [← boxC_is _ (HS.out _)]
        congr 2
        omega
      have hcs : wr.cell? ⟨g, q2, none⟩ = some (.int .i64 (x : Int)) := cell_of H0.out q2 _ (by rw [bI_get _ q2 (by omega), hxx])
      have hct : wr.cell? ⟨gt, q, none⟩ = some (.int .i64 ((tq S r k q : Nat) : Int)) := cell_of H1.out q _ (bI_get _ q (by omega))
      have hft : wr.frozen? ⟨gt, q, none⟩ = false := frozen_of_row _ _ _ _ _ H1.out
      have hwi : IntKind.i64.wrap ((k : Int) + 1) = ((k + 1 : Nat) : Int) := (IntWalk.i64_in _ (by omega)).trans (by omega)
      have HWr : Hid ((wr.setCell ⟨gt, q, none⟩ (.int .i64 (y : Int))).heap[gt]? = some (.cells (bI (tq S r (k + 1))) 3 (0, 0))) := hid ((block_set H1.out q _).trans (by
        rw [bI_set _ _ _ (by omega)]
        have e : bI (fun j => if j = q then y else tq S r k j) = bI (tq S r (k + 1)) := bI_congr fun i _ => by
          unfold tq
          by_cases h : i = q
          · rw [if_pos h, if_pos (by omega), hyt, h]
          · rw [if_neg h]
            by_cases h2 : i % 4 < r ∨ i % 4 = r ∧ i / 4 < k
            · rw [if_pos h2, if_pos (by omega)]
            · rw [if_neg h2, if_neg (by omega)]
        rw [e]))
      have H0' : Hid ((wr.setCell ⟨gt, q, none⟩ (.int .i64 (y : Int))).heap[g]? = some (.cells (bI S) 3 (0, 0))) := hid ((heap_setCell_other _ _ _ _ (by simpa using HNE.out)).trans H0.out)
      clear hm hq hcr hcm hm2 hq2 hxx hxl hy hyt hcB hgB hcapB
      go_wp2
      have hk := HK.out
      go_roundg (4 - k - 1)
      case measure => omega
      case rel => exact ⟨k + 1, by omega, rfl, H0'.out, HWr.out, HB.out.setCell HGT.out _⟩
    · have hke : k = 4 := by omega
      subst hke
      have hx : ¬ ((4 : Nat) : Int) < 4 := by omega
      clear hx
      go_wp2
      exact hexit _ _ _ _ _ _ _ _ _ _ _ _ _ _ _ _ _ _ _ _ _ _ _ _ H0.out H1.out HB.out
set_option maxRecDepth 100000 in
set_option maxHeartbeats 4000000 in
theorem blk11_l3 {Q : Exit → Act → World → Prop} (A' Ab Aw : Option Addr) (c' cb cw g : Nat) (ky : Nat → Nat) (wb w : World) (gt : Nat) (S : Nat → Nat) (t0 t3 t4 t5 t6 t9 t10 t13 t14 t15 t16 t17 t18 t19 t20 t21 t22 t23 t24 t25 t26 t27 t28 t29 t30 t31 t32 t33 t34 t35 t36 t37 t38 t39 t40 t41 t42 t43 t44 t45 t46 t47 t48 t49 t50 t51 t52 t53 t54 t55 t56 t57 t58 t59 t60 t61 t62 t63 t64 t65 t66 t67 t68 t69 t70 t71 t72 t73 t74 t75 t76 t77 t78 t79 t80 t81 t82 t83 t84 t85 t86 t87 t88 t89 t90 t91 t92 t93 t94 t95 t96 t97 t98 t99 t100 t101 t102 t103 t104 t105 t106 t107 t108 t109 t110 t111 t112 t113 t114 t115 t116 t117 t118 t119 t120 t121 t122 t123 t124 t125 t126 t127 t128 t129 t130 t131 t132 t133 t134 t135 t136 t137 t138 t139 t140 t141 t142 t143 t144 t145 t146 t147 t148 t149 t150 t151 t152 t153 t154 t155 t156 t157 t158 t159 t160 t161 t162 t163 t164 t165 t166 t167 t168 t169 t170 t171 : Value) (hS : ∀ i, S i < 256) (hBox : Ints wb wb.heap.size Ab cb boxN 256) (hg : wb.heap.size ≤ g) (hgt : wb.heap.size ≤ gt) (hne : g ≠ gt) (h0 : w.heap[g]? = some (.cells (bI (S)) 3 (0, 0))) (h1 : w.heap[gt]? = some (.cells (bI (fun _ => 0)) 3 (0, 0))) (hb : Below wb.heap.size wb w)
    (hexit : ∀ (w' : World) (u13 u51 u52 u53 u54 u55 u56 u57 u58 u59 u60 u61 u62 u63 u64 u65 u66 u67 u68 u69 u70 u71 u72 u73 u74 u75 u76 u77 : Value), w'.heap[g]? = some (.cells (bI (S)) 3 (0, 0)) → w'.heap[gt]? = some (.cells (bI (tur (boxS S))) 3 (0, 0)) → Below wb.heap.size wb w' → Q (.exit 4) ⟨(t0 :: (.slice A' 16 c') :: (.slice Ab 256 cb) :: t3 :: t4 :: t5 :: t6 :: (.slice Aw 44 cw) :: (.slice (some ⟨g, 0, none⟩) 16 16) :: t9 :: t10 :: (.slice (some ⟨gt, 0, none⟩) 16 16) :: (.int .i64 4) :: u13 :: t14 :: t15 :: t16 :: t17 :: t18 :: t19 :: t20 :: t21 :: t22 :: t23 :: t24 :: t25 :: t26 :: t27 :: t28 :: t29 :: t30 :: t31 :: t32 :: t33 :: t34 :: t35 :: t36 :: t37 :: t38 :: t39 :: t40 :: t41 :: t42 :: t43 :: t44 :: t45 :: t46 :: t47 :: t48 :: t49 :: t50 :: u51 :: u52 :: u53 :: u54 :: u55 :: u56 :: u57 :: u58 :: u59 :: u60 :: u61 :: u62 :: u63 :: u64 :: u65 :: u66 :: u67 :: u68 :: u69 :: u70 :: u71 :: u72 :: u73 :: u74 :: u75 :: u76 :: u77 :: t78 :: t79 :: t80 :: t81 :: t82 :: t83 :: t84 :: t85 :: t86 :: t87 :: t88 :: t89 :: t90 :: t91 :: t92 :: t93 :: t94 :: t95 :: t96 :: t97 :: t98 :: t99 :: t100 :: t101 :: t102 :: t103 :: t104 :: t105 :: t106 :: t107 :: t108 :: t109 :: t110 :: t111 :: t112 :: t113 :: t114 :: t115 :: t116 :: t117 :: t118 :: t119 :: t120 :: t121 :: t122 :: t123 :: t124 :: t125 :: t126 :: t127 :: t128 :: t129 :: t130 :: t131 :: t132 :: t133 :: t134 :: t135 :: t136 :: t137 :: t138 :: t139 :: t140 :: t141 :: t142 :: t143 :: t144 :: t145 :: t146 :: t147 :: t148 :: t149 :: t150 :: t151 :: t152 :: t153 :: t154 :: t155 :: t156 :: t157 :: t158 :: t159 :: t160 :: t161 :: t162 :: t163 :: t164 :: t165 :: t166 :: t167 :: t168 :: t169 :: t170 :: t171 :: []).toArray, []⟩ w') :
    Code.wp Try.prog (Code.loop (loopN Try.f16 2)) Q ⟨(t0 :: (.slice A' 16 c') :: (.slice Ab 256 cb) :: t3 :: t4 :: t5 :: t6 :: (.slice Aw 44 cw) :: (.slice (some ⟨g, 0, none⟩) 16 16) :: t9 :: t10 :: (.slice (some ⟨gt, 0, none⟩) 16 16) :: (.int .i64 0) :: t13 :: t14 :: t15 :: t16 :: t17 :: t18 :: t19 :: t20 :: t21 :: t22 :: t23 :: t24 :: t25 :: t26 :: t27 :: t28 :: t29 :: t30 :: t31 :: t32 :: t33 :: t34 :: t35 :: t36 :: t37 :: t38 :: t39 :: t40 :: t41 :: t42 :: t43 :: t44 :: t45 :: t46 :: t47 :: t48 :: t49 :: t50 :: t51 :: t52 :: t53 :: t54 :: t55 :: t56 :: t57 :: t58 :: t59 :: t60 :: t61 :: t62 :: t63 :: t64 :: t65 :: t66 :: t67 :: t68 :: t69 :: t70 :: t71 :: t72 :: t73 :: t74 :: t75 :: t76 :: t77 :: t78 :: t79 :: t80 :: t81 :: t82 :: t83 :: t84 :: t85 :: t86 :: t87 :: t88 :: t89 :: t90 :: t91 :: t92 :: t93 :: t94 :: t95 :: t96 :: t97 :: t98 :: t99 :: t100 :: t101 :: t102 :: t103 :: t104 :: t105 :: t106 :: t107 :: t108 :: t109 :: t110 :: t111 :: t112 :: t113 :: t114 :: t115 :: t116 :: t117 :: t118 :: t119 :: t120 :: t121 :: t122 :: t123 :: t124 :: t125 :: t126 :: t127 :: t128 :: t129 :: t130 :: t131 :: t132 :: t133 :: t134 :: t135 :: t136 :: t137 :: t138 :: t139 :: t140 :: t141 :: t142 :: t143 :: t144 :: t145 :: t146 :: t147 :: t148 :: t149 :: t150 :: t151 :: t152 :: t153 :: t154 :: t155 :: t156 :: t157 :: t158 :: t159 :: t160 :: t161 :: t162 :: t163 :: t164 :: t165 :: t166 :: t167 :: t168 :: t169 :: t170 :: t171 :: []).toArray, []⟩ w := by
  conv => arg 2; arg 1; whnf
  have h1' : w.heap[gt]? = some (.cells (bI (tq S 0 0)) 3 (0, 0)) := h1.trans (by
    have e : bI (fun _ => 0) = bI (tq S 0 0) := bI_congr fun i _ => by unfold tq; rw [if_neg (by omega)]
    rw [e])
  clear h1
  go_loopg [12] 4 (fun q rr wr => ∃ r : Nat, r + q = 4 ∧ rr = .int .i64 (r : Int) ∧ wr.heap[g]? = some (.cells (bI (S)) 3 (0, 0)) ∧ wr.heap[gt]? = some (.cells (bI (tq S r 0)) 3 (0, 0)) ∧ Below wb.heap.size wb wr)
  case atStart => exact ⟨0, rfl, rfl, h0, h1', hb⟩
  case round =>
    clear h0 h1' hb
    obtain ⟨r, hk, rfl, h0, h1, hb⟩ := hrel
    have HK := hid hk; have H0 := hid h0; have H1 := hid h1; have HB := hid hb
    have HG := hid hg; have HGT := hid hgt; have HNE := hid hne
    have hk4 : r ≤ 4 := by omega
    clear hk h0 h1 hb hg hgt hne
    by_cases hlt : r < 4
    · have hx : (r : Int) < 4 := by omega
      clear hexit
      go_wp2
      refine blk11_l4 A' Ab Aw c' cb cw g ky wb wr r gt S _ _ _ _ _ _ _ _ _ _ _ _ _ _ _ _ _ _ _ _ _ _ _ _ _ _ _ _ _ _ _ _ _ _ _ _ _ _ _ _ _ _ _ _ _ _ _ _ _ _ _ _ _ _ _ _ _ _ _ _ _ _ _ _ _ _ _ _ _ _ _ _ _ _ _ _ _ _ _ _ _ _ _ _ _ _ _ _ _ _ _ _ _ _ _ _ _ _ _ _ _ _ _ _ _ _ _ _ _ _ _ _ _ _ _ _ _ _ _ _ _ _ _ _ _ _ _ _ _ _ _ _ _ _ _ _ _ _ _ _ _ _ _ _ _ _ _ _ _ _ _ _ _ _ _ _ _ _ _ _ _ _ _ _ _ hlt hS hBox HG.out HGT.out HNE.out H0.out H1.out HB.out ?_
      intro w2 u55 u56 u57 u58 u59 u60 u61 u62 u63 u64 u65 u66 u67 u68 u69 u70 u71 u72 u73 u74 u75 u76 u77 k0 k1 k2
      have K0 := hid k0; have K2 := hid k2
      have K1 : Hid (w2.heap[gt]? = some (.cells (bI (tq S (r + 1) 0)) 3 (0, 0))) := hid (k1.trans (by
        have e : bI (tq S r 4) = bI (tq S (r + 1) 0) := bI_congr fun i hi => by
          unfold tq
          by_cases h : i % 4 < r + 1
          · rw [if_pos (by omega), if_pos (by omega)]
          · rw [if_neg (by omega), if_neg (by omega)]
        rw [e]))
      have hwi : IntKind.i64.wrap ((r : Int) + 1) = ((r + 1 : Nat) : Int) := (IntWalk.i64_in _ (by omega)).trans (by omega)
      clear k0 k1 k2
      go_wp2
      have hk := HK.out
      go_roundg (4 - r - 1)
      case measure => omega
      case rel => exact ⟨r + 1, by omega, rfl, K0.out, K1.out, K2.out⟩
    · have hke : r = 4 := by omega
      subst hke
      have K1 : Hid (wr.heap[gt]? = some (.cells (bI (tur (boxS S))) 3 (0, 0))) := hid (H1.out.trans (by
        have e : bI (tq S 4 0) = bI (tur (boxS S)) := bI_congr fun i _ => by unfold tq; rw [if_pos (by omega)]
        rw [e]))
      have hx : ¬ ((4 : Nat) : Int) < 4 := by omega
      clear hx
      go_wp2
      exact hexit _ _ _ _ _ _ _ _ _ _ _ _ _ _ _ _ _ _ _ _ _ _ _ _ _ _ _ _ _ H0.out K1.out HB.out
end Go.Proofs.Ytfjcedfjfadfpaa
