/-
  Texts of this claim in one file: Ref11h, Ref11i, Ref11j, Ref11k, Ref11l, Ref11m, Ref12b, Ref12c, Ref12i.
-/
import Derived.Test.YtojlmlmjmlbjmaaPk7
section
namespace Go.Proofs.Ytojlmlmjmlbjmaa
open Go.RowKit
set_option linter.unusedVariables false
set_option linter.unusedSimpArgs false
/-- Rows turned so far. -/
def tq (S : Nat → Nat) (r k j : Nat) : Nat := if j % 4 < r ∨ j % 4 = r ∧ j / 4 < k then tur (boxS S) j else 0
set_option maxRecDepth 100000 in
set_option maxHeartbeats 4000000 in
theorem blk11_l4 {Q : Exit → Act → World → Prop} (A' Ab Aw : Option Addr) (c' cb cw g : Nat) (ky : Nat → Nat) (wb w : World) (r gt : Nat) (S : Nat → Nat) (t0 t3 t4 t5 t6 t9 t10 t14 t15 t16 t17 t18 t19 t20 t21 t22 t23 t24 t25 t26 t27 t28 t29 t30 t31 t32 t33 t34 t35 t36 t37 t38 t39 t40 t41 t42 t43 t44 t45 t46 t47 t48 t49 t50 t51 t52 t53 t54 t55 t56 t57 t58 t59 t60 t61 t62 t63 t64 t65 t66 t67 t68 t69 t70 t71 t72 t73 t74 t75 t76 t77 t78 t79 t80 t81 t82 t83 t84 t85 t86 t87 t88 t89 t90 t91 t92 t93 t94 t95 t96 t97 t98 t99 t100 t101 t102 t103 t104 t105 t106 t107 t108 t109 t110 t111 t112 t113 t114 t115 t116 t117 t118 t119 t120 t121 t122 t123 t124 t125 t126 t127 t128 t129 t130 t131 t132 t133 t134 t135 t136 t137 t138 t139 t140 t141 t142 t143 t144 t145 t146 t147 t148 t149 t150 t151 t152 t153 t154 t155 t156 t157 t158 t159 t160 t161 t162 t163 t164 t165 t166 t167 t168 t169 t170 t171 : Value) (hr : r < 4) (hS : ∀ i, S i < 256) (hBox : Ints wb wb.heap.size Ab cb boxN 256) (hg : wb.heap.size ≤ g) (hgt : wb.heap.size ≤ gt) (hne : g ≠ gt) (h0 : w.heap[g]? = some (.cells (bI (S)) 3 (0, 0))) (h1 : w.heap[gt]? = some (.cells (bI (tq S r 0)) 3 (0, 0))) (hb : Below wb.heap.size wb w)
    (hexit : ∀ (w' : World) (u55 u56 u57 u58 u59 u60 u61 u62 u63 u64 u65 u66 u67 u68 u69 u70 u71 u72 u73 u74 u75 u76 u77 : Value), w'.heap[g]? = some (.cells (bI (S)) 3 (0, 0)) → w'.heap[gt]? = some (.cells (bI (tq S r 4)) 3 (0, 0)) → Below wb.heap.size wb w' → Q (.exit 6) ⟨(t0 :: (.slice A' 16 c') :: (.slice Ab 256 cb) :: t3 :: t4 :: t5 :: t6 :: (.slice Aw 44 cw) :: (.slice (some ⟨g, 0, none⟩) 16 16) :: t9 :: t10 :: (.slice (some ⟨gt, 0, none⟩) 16 16) :: (.int .i64 (r : Int)) :: (.int .i64 4) :: t14 :: t15 :: t16 :: t17 :: t18 :: t19 :: t20 :: t21 :: t22 :: t23 :: t24 :: t25 :: t26 :: t27 :: t28 :: t29 :: t30 :: t31 :: t32 :: t33 :: t34 :: t35 :: t36 :: t37 :: t38 :: t39 :: t40 :: t41 :: t42 :: t43 :: t44 :: t45 :: t46 :: t47 :: t48 :: t49 :: t50 :: t51 :: t52 :: t53 :: t54 :: u55 :: u56 :: u57 :: u58 :: u59 :: u60 :: u61 :: u62 :: u63 :: u64 :: u65 :: u66 :: u67 :: u68 :: u69 :: u70 :: u71 :: u72 :: u73 :: u74 :: u75 :: u76 :: u77 :: t78 :: t79 :: t80 :: t81 :: t82 :: t83 :: t84 :: t85 :: t86 :: t87 :: t88 :: t89 :: t90 :: t91 :: t92 :: t93 :: t94 :: t95 :: t96 :: t97 :: t98 :: t99 :: t100 :: t101 :: t102 :: t103 :: t104 :: t105 :: t106 :: t107 :: t108 :: t109 :: t110 :: t111 :: t112 :: t113 :: t114 :: t115 :: t116 :: t117 :: t118 :: t119 :: t120 :: t121 :: t122 :: t123 :: t124 :: t125 :: t126 :: t127 :: t128 :: t129 :: t130 :: t131 :: t132 :: t133 :: t134 :: t135 :: t136 :: t137 :: t138 :: t139 :: t140 :: t141 :: t142 :: t143 :: t144 :: t145 :: t146 :: t147 :: t148 :: t149 :: t150 :: t151 :: t152 :: t153 :: t154 :: t155 :: t156 :: t157 :: t158 :: t159 :: t160 :: t161 :: t162 :: t163 :: t164 :: t165 :: t166 :: t167 :: t168 :: t169 :: t170 :: t171 :: []).toArray, []⟩ w') :
    Code.wp Try.prog (Code.loop (loopN Try.f22 3)) Q ⟨(t0 :: (.slice A' 16 c') :: (.slice Ab 256 cb) :: t3 :: t4 :: t5 :: t6 :: (.slice Aw 44 cw) :: (.slice (some ⟨g, 0, none⟩) 16 16) :: t9 :: t10 :: (.slice (some ⟨gt, 0, none⟩) 16 16) :: (.int .i64 (r : Int)) :: (.int .i64 0) :: t14 :: t15 :: t16 :: t17 :: t18 :: t19 :: t20 :: t21 :: t22 :: t23 :: t24 :: t25 :: t26 :: t27 :: t28 :: t29 :: t30 :: t31 :: t32 :: t33 :: t34 :: t35 :: t36 :: t37 :: t38 :: t39 :: t40 :: t41 :: t42 :: t43 :: t44 :: t45 :: t46 :: t47 :: t48 :: t49 :: t50 :: t51 :: t52 :: t53 :: t54 :: t55 :: t56 :: t57 :: t58 :: t59 :: t60 :: t61 :: t62 :: t63 :: t64 :: t65 :: t66 :: t67 :: t68 :: t69 :: t70 :: t71 :: t72 :: t73 :: t74 :: t75 :: t76 :: t77 :: t78 :: t79 :: t80 :: t81 :: t82 :: t83 :: t84 :: t85 :: t86 :: t87 :: t88 :: t89 :: t90 :: t91 :: t92 :: t93 :: t94 :: t95 :: t96 :: t97 :: t98 :: t99 :: t100 :: t101 :: t102 :: t103 :: t104 :: t105 :: t106 :: t107 :: t108 :: t109 :: t110 :: t111 :: t112 :: t113 :: t114 :: t115 :: t116 :: t117 :: t118 :: t119 :: t120 :: t121 :: t122 :: t123 :: t124 :: t125 :: t126 :: t127 :: t128 :: t129 :: t130 :: t131 :: t132 :: t133 :: t134 :: t135 :: t136 :: t137 :: t138 :: t139 :: t140 :: t141 :: t142 :: t143 :: t144 :: t145 :: t146 :: t147 :: t148 :: t149 :: t150 :: t151 :: t152 :: t153 :: t154 :: t155 :: t156 :: t157 :: t158 :: t159 :: t160 :: t161 :: t162 :: t163 :: t164 :: t165 :: t166 :: t167 :: t168 :: t169 :: t170 :: t171 :: []).toArray, []⟩ w := by
  conv => arg 2; arg 1; whnf
  have HBX := hid hBox; have HS := hid hS; have HR := hid hr; have HG := hid hg; have HGT := hid hgt; have HNE := hid hne
  clear hBox hS hg hgt hne
  go_loopg [13] 4 (fun q cc wr => ∃ k : Nat, k + q = 4 ∧ cc = .int .i64 (k : Int) ∧ wr.heap[g]? = some (.cells (bI (S)) 3 (0, 0)) ∧ wr.heap[gt]? = some (.cells (bI (tq S r k)) 3 (0, 0)) ∧ Below wb.heap.size wb wr)
  case atStart => exact ⟨0, rfl, rfl, h0, h1, hb⟩
  case round =>
    clear h0 h1 hb
    obtain ⟨k, hk, rfl, h0, h1, hb⟩ := hrel
    have HK := hid hk; have H0 := hid h0; have H1 := hid h1; have HB := hid hb
    have hk4 : k ≤ 4 := by omega
    clear hk h0 h1 hb
    by_cases hlt : k < 4
    · have hx : (k : Int) < 4 := by omega
      clear hexit
      obtain ⟨m, hm⟩ : ∃ m, m = 4 * k := ⟨_, rfl⟩
      obtain ⟨q, hq⟩ : ∃ q, q = r + m := ⟨_, rfl⟩
      obtain ⟨cr, hcr⟩ : ∃ x, x = k + r := ⟨_, rfl⟩
      obtain ⟨cm, hcm⟩ : ∃ x, x = cr % 4 := ⟨_, rfl⟩
      obtain ⟨m2, hm2⟩ : ∃ x, x = 4 * cm := ⟨_, rfl⟩
      obtain ⟨q2, hq2⟩ : ∃ x, x = r + m2 := ⟨_, rfl⟩
      have e1 := i64_4 hm (by omega)
      have e2 := i64_s hq (by omega)
      have e3 := i64_s hcr (by omega)
      obtain ⟨e4, e5, e6⟩ := rem4 hcm (by omega)
      have e7 := i64_4 hm2 (by omega)
      have e8 := i64_s hq2 (by omega)
      have q16 : (q : Int) < 16 := by omega
      have q0 : (0 : Int) ≤ (q : Int) := by omega
      have q216 : (q2 : Int) < 16 := by omega
      have q20 : (0 : Int) ≤ (q2 : Int) := by omega
      obtain ⟨x, hxx⟩ : ∃ x, x = S q2 := ⟨_, rfl⟩
      have hxl : x < 256 := by rw [hxx]; exact HS.out q2
      have hx256 : (x : Int) < 256 := by omega
      have hx0 : (0 : Int) ≤ (x : Int) := by omega
      obtain ⟨⟨gB, rfl, hgB, hcB⟩, hcapB⟩ := HBX.out
      have hbx := (HB.out.cell (p := ⟨gB, x, none⟩) hgB).trans (hcB x hxl)
      obtain ⟨y, hy⟩ : ∃ y, y = boxN x := ⟨_, rfl⟩
      rw [← hy] at hbx
      have hyt : y = tur (boxS S) q := by
        rw [hy, hxx, hq2, hm2, hcm, hcr]
        unfold tur boxS
        rw [← boxC_is _ (HS.out _)]
        congr 2
        omega
      have hcs : wr.cell? ⟨g, q2, none⟩ = some (.int .i64 (x : Int)) := cell_of H0.out q2 _ (by rw [bI_get _ q2 (by omega), hxx])
      have hct : wr.cell? ⟨gt, q, none⟩ = some (.int .i64 ((tq S r k q : Nat) : Int)) := cell_of H1.out q _ (bI_get _ q (by omega))
      have hft : wr.frozen? ⟨gt, q, none⟩ = false := frozen_of_row _ _ _ _ _ H1.out
      have hwi : IntKind.i64.wrap ((k : Int) + 1) = ((k + 1 : Nat) : Int) := (IntWalk.i64_in _ (by omega)).trans (by omega)
      have HWr : Hid ((wr.setCell ⟨gt, q, none⟩ (.int .i64 (y : Int))).heap[gt]? = some (.cells (bI (tq S r (k + 1))) 3 (0, 0))) := hid ((block_set H1.out q _).trans (by
        rw [bI_set _ _ _ (by omega)]
        have e : bI (fun j => if j = q then y else tq S r k j) = bI (tq S r (k + 1)) := bI_congr fun i _ => by
          unfold tq
          by_cases h : i = q
          · rw [if_pos h, if_pos (by omega), hyt, h]
          · rw [if_neg h]
            by_cases h2 : i % 4 < r ∨ i % 4 = r ∧ i / 4 < k
            · rw [if_pos h2, if_pos (by omega)]
            · rw [if_neg h2, if_neg (by omega)]
        rw [e]))
      have H0' : Hid ((wr.setCell ⟨gt, q, none⟩ (.int .i64 (y : Int))).heap[g]? = some (.cells (bI S) 3 (0, 0))) := hid ((heap_setCell_other _ _ _ _ (by simpa using HNE.out)).trans H0.out)
      clear hm hq hcr hcm hm2 hq2 hxx hxl hy hyt hcB hgB hcapB
      go_wp2
      have hk := HK.out
      go_roundg (4 - k - 1)
      case measure => omega
      case rel => exact ⟨k + 1, by omega, rfl, H0'.out, HWr.out, HB.out.setCell HGT.out _⟩
    · have hke : k = 4 := by omega
      subst hke
      have hx : ¬ ((4 : Nat) : Int) < 4 := by omega
      clear hx
      go_wp2
      exact hexit _ _ _ _ _ _ _ _ _ _ _ _ _ _ _ _ _ _ _ _ _ _ _ _ H0.out H1.out HB.out
set_option maxRecDepth 100000 in
set_option maxHeartbeats 4000000 in
theorem blk11_l3 {Q : Exit → Act → World → Prop} (A' Ab Aw : Option Addr) (c' cb cw g : Nat) (ky : Nat → Nat) (wb w : World) (gt : Nat) (S : Nat → Nat) (t0 t3 t4 t5 t6 t9 t10 t13 t14 t15 t16 t17 t18 t19 t20 t21 t22 t23 t24 t25 t26 t27 t28 t29 t30 t31 t32 t33 t34 t35 t36 t37 t38 t39 t40 t41 t42 t43 t44 t45 t46 t47 t48 t49 t50 t51 t52 t53 t54 t55 t56 t57 t58 t59 t60 t61 t62 t63 t64 t65 t66 t67 t68 t69 t70 t71 t72 t73 t74 t75 t76 t77 t78 t79 t80 t81 t82 t83 t84 t85 t86 t87 t88 t89 t90 t91 t92 t93 t94 t95 t96 t97 t98 t99 t100 t101 t102 t103 t104 t105 t106 t107 t108 t109 t110 t111 t112 t113 t114 t115 t116 t117 t118 t119 t120 t121 t122 t123 t124 t125 t126 t127 t128 t129 t130 t131 t132 t133 t134 t135 t136 t137 t138 t139 t140 t141 t142 t143 t144 t145 t146 t147 t148 t149 t150 t151 t152 t153 t154 t155 t156 t157 t158 t159 t160 t161 t162 t163 t164 t165 t166 t167 t168 t169 t170 t171 : Value) (hS : ∀ i, S i < 256) (hBox : Ints wb wb.heap.size Ab cb boxN 256) (hg : wb.heap.size ≤ g) (hgt : wb.heap.size ≤ gt) (hne : g ≠ gt) (h0 : w.heap[g]? = some (.cells (bI (S)) 3 (0, 0))) (h1 : w.heap[gt]? = some (.cells (bI (fun _ => 0)) 3 (0, 0))) (hb : Below wb.heap.size wb w)
    (hexit : ∀ (w' : World) (u13 u51 u52 u53 u54 u55 u56 u57 u58 u59 u60 u61 u62 u63 u64 u65 u66 u67 u68 u69 u70 u71 u72 u73 u74 u75 u76 u77 : Value), w'.heap[g]? = some (.cells (bI (S)) 3 (0, 0)) → w'.heap[gt]? = some (.cells (bI (tur (boxS S))) 3 (0, 0)) → Below wb.heap.size wb w' → Q (.exit 4) ⟨(t0 :: (.slice A' 16 c') :: (.slice Ab 256 cb) :: t3 :: t4 :: t5 :: t6 :: (.slice Aw 44 cw) :: (.slice (some ⟨g, 0, none⟩) 16 16) :: t9 :: t10 :: (.slice (some ⟨gt, 0, none⟩) 16 16) :: (.int .i64 4) :: u13 :: t14 :: t15 :: t16 :: t17 :: t18 :: t19 :: t20 :: t21 :: t22 :: t23 :: t24 :: t25 :: t26 :: t27 :: t28 :: t29 :: t30 :: t31 :: t32 :: t33 :: t34 :: t35 :: t36 :: t37 :: t38 :: t39 :: t40 :: t41 :: t42 :: t43 :: t44 :: t45 :: t46 :: t47 :: t48 :: t49 :: t50 :: u51 :: u52 :: u53 :: u54 :: u55 :: u56 :: u57 :: u58 :: u59 :: u60 :: u61 :: u62 :: u63 :: u64 :: u65 :: u66 :: u67 :: u68 :: u69 :: u70 :: u71 :: u72 :: u73 :: u74 :: u75 :: u76 :: u77 :: t78 :: t79 :: t80 :: t81 :: t82 :: t83 :: t84 :: t85 :: t86 :: t87 :: t88 :: t89 :: t90 :: t91 :: t92 :: t93 :: t94 :: t95 :: t96 :: t97 :: t98 :: t99 :: t100 :: t101 :: t102 :: t103 :: t104 :: t105 :: t106 :: t107 :: t108 :: t109 :: t110 :: t111 :: t112 :: t113 :: t114 :: t115 :: t116 :: t117 :: t118 :: t119 :: t120 :: t121 :: t122 :: t123 :: t124 :: t125 :: t126 :: t127 :: t128 :: t129 :: t130 :: t131 :: t132 :: t133 :: t134 :: t135 :: t136 :: t137 :: t138 :: t139 :: t140 :: t141 :: t142 :: t143 :: t144 :: t145 :: t146 :: t147 :: t148 :: t149 :: t150 :: t151 :: t152 :: t153 :: t154 :: t155 :: t156 :: t157 :: t158 :: t159 :: t160 :: t161 :: t162 :: t163 :: t164 :: t165 :: t166 :: t167 :: t168 :: t169 :: t170 :: t171 :: []).toArray, []⟩ w') :
    Code.wp Try.prog (Code.loop (loopN Try.f22 2)) Q ⟨(t0 :: (.slice A' 16 c') :: (.slice Ab 256 cb) :: t3 :: t4 :: t5 :: t6 :: (.slice Aw 44 cw) :: (.slice (some ⟨g, 0, none⟩) 16 16) :: t9 :: t10 :: (.slice (some ⟨gt, 0, none⟩) 16 16) :: (.int .i64 0) :: t13 :: t14 :: t15 :: t16 :: t17 :: t18 :: t19 :: t20 :: t21 :: t22 :: t23 :: t24 :: t25 :: t26 :: t27 :: t28 :: t29 :: t30 :: t31 :: t32 :: t33 :: t34 :: t35 :: t36 :: t37 :: t38 :: t39 :: t40 :: t41 :: t42 :: t43 :: t44 :: t45 :: t46 :: t47 :: t48 :: t49 :: t50 :: t51 :: t52 :: t53 :: t54 :: t55 :: t56 :: t57 :: t58 :: t59 :: t60 :: t61 :: t62 :: t63 :: t64 :: t65 :: t66 :: t67 :: t68 :: t69 :: t70 :: t71 :: t72 :: t73 :: t74 :: t75 :: t76 :: t77 :: t78 :: t79 :: t80 :: t81 :: t82 :: t83 :: t84 :: t85 :: t86 :: t87 :: t88 :: t89 :: t90 :: t91 :: t92 :: t93 :: t94 :: t95 :: t96 :: t97 :: t98 :: t99 :: t100 :: t101 :: t102 :: t103 :: t104 :: t105 :: t106 :: t107 :: t108 :: t109 :: t110 :: t111 :: t112 :: t113 :: t114 :: t115 :: t116 :: t117 :: t118 :: t119 :: t120 :: t121 :: t122 :: t123 :: t124 :: t125 :: t126 :: t127 :: t128 :: t129 :: t130 :: t131 :: t132 :: t133 :: t134 :: t135 :: t136 :: t137 :: t138 :: t139 :: t140 :: t141 :: t142 :: t143 :: t144 :: t145 :: t146 :: t147 :: t148 :: t149 :: t150 :: t151 :: t152 :: t153 :: t154 :: t155 :: t156 :: t157 :: t158 :: t159 :: t160 :: t161 :: t162 :: t163 :: t164 :: t165 :: t166 :: t167 :: t168 :: t169 :: t170 :: t171 :: []).toArray, []⟩ w := by
  conv => arg 2; arg 1; whnf
  have h1' : w.heap[gt]? = some (.cells (bI (tq S 0 0)) 3 (0, 0)) := h1.trans (by
    have e : bI (fun _ => 0) = bI (tq S 0 0) := bI_congr fun i _ => by unfold tq; rw [if_neg (by omega)]
    rw [e])
  clear h1
  go_loopg [12] 4 (fun q rr wr => ∃ r : Nat, r + q = 4 ∧ rr = .int .i64 (r : Int) ∧ wr.heap[g]? = some (.cells (bI (S)) 3 (0, 0)) ∧ wr.heap[gt]? = some (.cells (bI (tq S r 0)) 3 (0, 0)) ∧ Below wb.heap.size wb wr)
  case atStart => exact ⟨0, rfl, rfl, h0, h1', hb⟩
  case round =>
    clear h0 h1' hb
    obtain ⟨r, hk, rfl, h0, h1, hb⟩ := hrel
    have HK := hid hk; have H0 := hid h0; have H1 := hid h1; have HB := hid hb
    have HG := hid hg; have HGT := hid hgt; have HNE := hid hne
    have hk4 : r ≤ 4 := by omega
    clear hk h0 h1 hb hg hgt hne
    by_cases hlt : r < 4
    · have hx : (r : Int) < 4 := by omega
      clear hexit
      go_wp2
      refine blk11_l4 A' Ab Aw c' cb cw g ky wb wr r gt S _ _ _ _ _ _ _ _ _ _ _ _ _ _ _ _ _ _ _ _ _ _ _ _ _ _ _ _ _ _ _ _ _ _ _ _ _ _ _ _ _ _ _ _ _ _ _ _ _ _ _ _ _ _ _ _ _ _ _ _ _ _ _ _ _ _ _ _ _ _ _ _ _ _ _ _ _ _ _ _ _ _ _ _ _ _ _ _ _ _ _ _ _ _ _ _ _ _ _ _ _ _ _ _ _ _ _ _ _ _ _ _ _ _ _ _ _ _ _ _ _ _ _ _ _ _ _ _ _ _ _ _ _ _ _ _ _ _ _ _ _ _ _ _ _ _ _ _ _ _ _ _ _ _ _ _ _ _ _ _ _ _ _ _ _ hlt hS hBox HG.out HGT.out HNE.out H0.out H1.out HB.out ?_
      intro w2 u55 u56 u57 u58 u59 u60 u61 u62 u63 u64 u65 u66 u67 u68 u69 u70 u71 u72 u73 u74 u75 u76 u77 k0 k1 k2
      have K0 := hid k0; have K2 := hid k2
      have K1 : Hid (w2.heap[gt]? = some (.cells (bI (tq S (r + 1) 0)) 3 (0, 0))) := hid (k1.trans (by
        have e : bI (tq S r 4) = bI (tq S (r + 1) 0) := bI_congr fun i hi => by
          unfold tq
          by_cases h : i % 4 < r + 1
          · rw [if_pos (by omega), if_pos (by omega)]
          · rw [if_neg (by omega), if_neg (by omega)]
        rw [e]))
      have hwi : IntKind.i64.wrap ((r : Int) + 1) = ((r + 1 : Nat) : Int) := (IntWalk.i64_in _ (by omega)).trans (by omega)
      clear k0 k1 k2
      go_wp2
      have hk := HK.out
      go_roundg (4 - r - 1)
      case measure => omega
      case rel => exact ⟨r + 1, by omega, rfl, K0.out, K1.out, K2.out⟩
    · have hke : r = 4 := by omega
      subst hke
      have K1 : Hid (wr.heap[gt]? = some (.cells (bI (tur (boxS S))) 3 (0, 0))) := hid (H1.out.trans (by
        have e : bI (tq S 4 0) = bI (tur (boxS S)) := bI_congr fun i _ => by unfold tq; rw [if_pos (by omega)]
        rw [e]))
      have hx : ¬ ((4 : Nat) : Int) < 4 := by omega
      clear hx
      go_wp2
      exact hexit _ _ _ _ _ _ _ _ _ _ _ _ _ _ _ _ _ _ _ _ _ _ _ _ _ _ _ _ _ H0.out K1.out HB.out
end Go.Proofs.Ytojlmlmjmlbjmaa
end
section
namespace Go.Proofs.Ytojlmlmjmlbjmaa
open Go.RowKit
set_option linter.unusedVariables false
set_option linter.unusedSimpArgs false
set_option maxRecDepth 100000 in
set_option maxHeartbeats 4000000 in
theorem blk11_l6 {Q : Exit → Act → World → Prop} (A' Ab Aw : Option Addr) (c' cb cw g : Nat) (ky : Nat → Nat) (wb w : World) (cc gt gu : Nat) (S T : Nat → Nat) (t0 t3 t4 t5 t6 t9 t10 t12 t13 t17 t18 t19 t20 t21 t22 t23 t24 t25 t26 t27 t28 t29 t30 t31 t32 t33 t34 t35 t36 t37 t38 t39 t40 t41 t42 t43 t44 t45 t46 t47 t48 t49 t50 t51 t52 t53 t54 t55 t56 t57 t58 t59 t60 t61 t62 t63 t64 t65 t66 t67 t68 t69 t70 t71 t72 t73 t74 t75 t76 t77 t78 t79 t80 t81 t82 t83 t84 t85 t86 t87 t88 t89 t90 t91 t92 t93 t94 t95 t96 t97 t98 t99 t100 t101 t102 t103 t104 t105 t106 t107 t108 t109 t110 t111 t112 t113 t114 t115 t116 t117 t118 t119 t120 t121 t122 t123 t124 t125 t126 t127 t128 t129 t130 t131 t132 t133 t134 t135 t136 t137 t138 t139 t140 t141 t142 t143 t144 t145 t146 t147 t148 t149 t150 t151 t152 t153 t154 t155 t156 t157 t158 t159 t160 t161 t162 t163 t164 t165 t166 t167 t168 t169 t170 t171 : Value) (hcc : cc < 4) (hT : ∀ i, T i < 256) (hgt : wb.heap.size ≤ gt) (hgu : wb.heap.size ≤ gu) (hgg : wb.heap.size ≤ g) (hne : gt ≠ gu) (hne2 : g ≠ gu) (h0 : w.heap[gt]? = some (.cells (bI (T)) 3 (0, 0))) (h1 : w.heap[gu]? = some (.cells (bI (cut (mixS T) (4 * cc))) 3 (0, 0))) (h2 : w.heap[g]? = some (.cells (bI (S)) 3 (0, 0))) (hb : Below wb.heap.size wb w)
    (hexit : ∀ (w' : World) (u85 u86 u87 u88 u89 u90 u91 u92 u93 u94 u95 u96 u97 u98 u99 u100 u101 u102 u103 u104 u105 u106 u107 u108 u109 u110 u111 u112 u113 u114 u115 u116 u117 u118 u119 u120 u121 u122 u123 u124 u125 u126 u127 u128 u129 u130 u131 u132 u133 : Value), w'.heap[gt]? = some (.cells (bI (T)) 3 (0, 0)) → w'.heap[gu]? = some (.cells (bI (cut (mixS T) (4 * cc + 4))) 3 (0, 0)) → w'.heap[g]? = some (.cells (bI (S)) 3 (0, 0)) → Below wb.heap.size wb w' → Q (.exit 10) ⟨(t0 :: (.slice A' 16 c') :: (.slice Ab 256 cb) :: t3 :: t4 :: t5 :: t6 :: (.slice Aw 44 cw) :: (.slice (some ⟨g, 0, none⟩) 16 16) :: t9 :: t10 :: (.slice (some ⟨gt, 0, none⟩) 16 16) :: t12 :: t13 :: (.slice (some ⟨gu, 0, none⟩) 16 16) :: (.int .i64 (cc : Int)) :: (.int .i64 4) :: t17 :: t18 :: t19 :: t20 :: t21 :: t22 :: t23 :: t24 :: t25 :: t26 :: t27 :: t28 :: t29 :: t30 :: t31 :: t32 :: t33 :: t34 :: t35 :: t36 :: t37 :: t38 :: t39 :: t40 :: t41 :: t42 :: t43 :: t44 :: t45 :: t46 :: t47 :: t48 :: t49 :: t50 :: t51 :: t52 :: t53 :: t54 :: t55 :: t56 :: t57 :: t58 :: t59 :: t60 :: t61 :: t62 :: t63 :: t64 :: t65 :: t66 :: t67 :: t68 :: t69 :: t70 :: t71 :: t72 :: t73 :: t74 :: t75 :: t76 :: t77 :: t78 :: t79 :: t80 :: t81 :: t82 :: t83 :: t84 :: u85 :: u86 :: u87 :: u88 :: u89 :: u90 :: u91 :: u92 :: u93 :: u94 :: u95 :: u96 :: u97 :: u98 :: u99 :: u100 :: u101 :: u102 :: u103 :: u104 :: u105 :: u106 :: u107 :: u108 :: u109 :: u110 :: u111 :: u112 :: u113 :: u114 :: u115 :: u116 :: u117 :: u118 :: u119 :: u120 :: u121 :: u122 :: u123 :: u124 :: u125 :: u126 :: u127 :: u128 :: u129 :: u130 :: u131 :: u132 :: u133 :: t134 :: t135 :: t136 :: t137 :: t138 :: t139 :: t140 :: t141 :: t142 :: t143 :: t144 :: t145 :: t146 :: t147 :: t148 :: t149 :: t150 :: t151 :: t152 :: t153 :: t154 :: t155 :: t156 :: t157 :: t158 :: t159 :: t160 :: t161 :: t162 :: t163 :: t164 :: t165 :: t166 :: t167 :: t168 :: t169 :: t170 :: t171 :: []).toArray, []⟩ w') :
    Code.wp Try.prog (Code.loop (loopN Try.f22 5)) Q ⟨(t0 :: (.slice A' 16 c') :: (.slice Ab 256 cb) :: t3 :: t4 :: t5 :: t6 :: (.slice Aw 44 cw) :: (.slice (some ⟨g, 0, none⟩) 16 16) :: t9 :: t10 :: (.slice (some ⟨gt, 0, none⟩) 16 16) :: t12 :: t13 :: (.slice (some ⟨gu, 0, none⟩) 16 16) :: (.int .i64 (cc : Int)) :: (.int .i64 0) :: t17 :: t18 :: t19 :: t20 :: t21 :: t22 :: t23 :: t24 :: t25 :: t26 :: t27 :: t28 :: t29 :: t30 :: t31 :: t32 :: t33 :: t34 :: t35 :: t36 :: t37 :: t38 :: t39 :: t40 :: t41 :: t42 :: t43 :: t44 :: t45 :: t46 :: t47 :: t48 :: t49 :: t50 :: t51 :: t52 :: t53 :: t54 :: t55 :: t56 :: t57 :: t58 :: t59 :: t60 :: t61 :: t62 :: t63 :: t64 :: t65 :: t66 :: t67 :: t68 :: t69 :: t70 :: t71 :: t72 :: t73 :: t74 :: t75 :: t76 :: t77 :: t78 :: t79 :: t80 :: t81 :: t82 :: t83 :: t84 :: t85 :: t86 :: t87 :: t88 :: t89 :: t90 :: t91 :: t92 :: t93 :: t94 :: t95 :: t96 :: t97 :: t98 :: t99 :: t100 :: t101 :: t102 :: t103 :: t104 :: t105 :: t106 :: t107 :: t108 :: t109 :: t110 :: t111 :: t112 :: t113 :: t114 :: t115 :: t116 :: t117 :: t118 :: t119 :: t120 :: t121 :: t122 :: t123 :: t124 :: t125 :: t126 :: t127 :: t128 :: t129 :: t130 :: t131 :: t132 :: t133 :: t134 :: t135 :: t136 :: t137 :: t138 :: t139 :: t140 :: t141 :: t142 :: t143 :: t144 :: t145 :: t146 :: t147 :: t148 :: t149 :: t150 :: t151 :: t152 :: t153 :: t154 :: t155 :: t156 :: t157 :: t158 :: t159 :: t160 :: t161 :: t162 :: t163 :: t164 :: t165 :: t166 :: t167 :: t168 :: t169 :: t170 :: t171 :: []).toArray, []⟩ w := by
  conv => arg 2; arg 1; whnf
  have HT := hid hT; have HCC := hid hcc; have HGU := hid hgu; have HNE := hid hne; have HNE2 := hid hne2
  clear hT hgt hgu hne hne2 hgg
  go_loopg [16] 4 (fun q rr wr => ∃ k : Nat, k + q = 4 ∧ rr = .int .i64 (k : Int) ∧ wr.heap[gt]? = some (.cells (bI (T)) 3 (0, 0)) ∧ wr.heap[gu]? = some (.cells (bI (cut (mixS T) (4 * cc + k))) 3 (0, 0)) ∧ wr.heap[g]? = some (.cells (bI (S)) 3 (0, 0)) ∧ Below wb.heap.size wb wr)
  case atStart => exact ⟨0, rfl, rfl, h0, h1, h2, hb⟩
  case round =>
    clear h0 h1 h2 hb
    obtain ⟨k, hk, rfl, h0, h1, h2, hb⟩ := hrel
    have HK := hid hk; have H0 := hid h0; have H1 := hid h1; have H2 := hid h2; have HB := hid hb
    have hk4 : k ≤ 4 := by omega
    clear hk h0 h1 h2 hb
    by_cases hlt : k < 4
    · have hx : (k : Int) < 4 := by omega
      clear hexit
      obtain ⟨m, hm⟩ : ∃ m, m = 4 * cc := ⟨_, rfl⟩
      obtain ⟨q0, hq0⟩ : ∃ q, q = k + m := ⟨_, rfl⟩
      obtain ⟨r1, hr1⟩ : ∃ x, x = k + 1 := ⟨_, rfl⟩
      obtain ⟨s1, hs1⟩ : ∃ x, x = r1 % 4 := ⟨_, rfl⟩
      obtain ⟨q1, hq1⟩ : ∃ x, x = s1 + m := ⟨_, rfl⟩
      obtain ⟨r2, hr2⟩ : ∃ x, x = k + 2 := ⟨_, rfl⟩
      obtain ⟨s2, hs2⟩ : ∃ x, x = r2 % 4 := ⟨_, rfl⟩
      obtain ⟨q2, hq2⟩ : ∃ x, x = s2 + m := ⟨_, rfl⟩
      obtain ⟨r3, hr3⟩ : ∃ x, x = k + 3 := ⟨_, rfl⟩
      obtain ⟨s3, hs3⟩ : ∃ x, x = r3 % 4 := ⟨_, rfl⟩
      obtain ⟨q3, hq3⟩ : ∃ x, x = s3 + m := ⟨_, rfl⟩
      have e1 : IntKind.i64.wrap (4 * (cc : Int)) = (m : Int) := i64_4 hm (by rw [hm]; clear hq0 hr1 hs1 hq1 hr2 hs2 hq2 hr3 hs3 hq3; omega)
      have e2 : IntKind.i64.wrap ((k : Int) + (m : Int)) = (q0 : Int) := i64_s hq0 (by rw [hq0, hm]; clear hr1 hs1 hq1 hr2 hs2 hq2 hr3 hs3 hq3; omega)
      obtain ⟨f1, a1, a2, a3, e3, p1, p1', z1⟩ := mix_q hlt hcc hm hr1 (by decide) hs1 hq1
      obtain ⟨f2, b1, b2, b3, e4, p2, p2', z2⟩ := mix_q hlt hcc hm hr2 (by decide) hs2 hq2
      obtain ⟨f3, d1, d2, d3, e5, p3, p3', z3⟩ := mix_q hlt hcc hm hr3 (by decide) hs3 hq3
      have z0 : q0 < 16 := by rw [hq0, hm]; clear hr1 hs1 hq1 hr2 hs2 hq2 hr3 hs3 hq3; omega
      have p0 : (q0 : Int) < 16 := by exact_mod_cast z0
      have p0' : (0 : Int) ≤ (q0 : Int) := Int.natCast_nonneg q0
      replace f1 : IntKind.i64.wrap ((k : Int) + 1) = (r1 : Int) := f1
      replace f2 : IntKind.i64.wrap ((k : Int) + 2) = (r2 : Int) := f2
      replace f3 : IntKind.i64.wrap ((k : Int) + 3) = (r3 : Int) := f3
      obtain ⟨x0, hx0⟩ : ∃ x, x = T q0 := ⟨_, rfl⟩
      obtain ⟨x1, hx1⟩ : ∃ x, x = T q1 := ⟨_, rfl⟩
      obtain ⟨x2, hx2⟩ : ∃ x, x = T q2 := ⟨_, rfl⟩
      obtain ⟨x3, hx3⟩ : ∃ x, x = T q3 := ⟨_, rfl⟩
      have l0 : x0 < 256 := by rw [hx0]; exact HT.out _
      have l1 : x1 < 256 := by rw [hx1]; exact HT.out _
      have l2 : x2 < 256 := by rw [hx2]; exact HT.out _
      have l3 : x3 < 256 := by rw [hx3]; exact HT.out _
      have c0 : wr.cell? ⟨gt, q0, none⟩ = some (.int .i64 (x0 : Int)) := cell_of H0.out q0 _ (by rw [bI_get _ q0 z0, hx0])
      have c1 : wr.cell? ⟨gt, q1, none⟩ = some (.int .i64 (x1 : Int)) := cell_of H0.out q1 _ (by rw [bI_get _ q1 z1, hx1])
      have c2 : wr.cell? ⟨gt, q2, none⟩ = some (.int .i64 (x2 : Int)) := cell_of H0.out q2 _ (by rw [bI_get _ q2 z2, hx2])
      have c3 : wr.cell? ⟨gt, q3, none⟩ = some (.int .i64 (x3 : Int)) := cell_of H0.out q3 _ (by rw [bI_get _ q3 z3, hx3])
      obtain ⟨t2, ht2⟩ : ∃ x, x = tmN 2 x0 := ⟨_, rfl⟩
      obtain ⟨t3, ht3⟩ : ∃ x, x = tmN 3 x1 := ⟨_, rfl⟩
      have lt2 : t2 < 256 := by rw [ht2]; exact tm_lt (by decide) l0
      have lt3 : t3 < 256 := by rw [ht3]; exact tm_lt (by decide) l1
      have KT2 : Hid (∀ (W : World) (k : Nat), Calls Try.prog 37 #[.int .i64 2, .int .i64 (x0 : Int)] (W.drewN k) fun e w' => e = .returned (.int .i64 (t2 : Int)) ∧ ∃ m, w' = W.drewN m) := hid fun W k => by
        rw [ht2]; exact (Times11_any 2 x0 (by decide) l0 _).mono fun _ _ h => ⟨h.1, k, h.2.symm⟩
      have KT3 : Hid (∀ (W : World) (k : Nat), Calls Try.prog 37 #[.int .i64 3, .int .i64 (x1 : Int)] (W.drewN k) fun e w' => e = .returned (.int .i64 (t3 : Int)) ∧ ∃ m, w' = W.drewN m) := hid fun W k => by
        rw [ht3]; exact (Times11_any 3 x1 (by decide) l1 _).mono fun _ _ h => ⟨h.1, k, h.2.symm⟩
      have g1 := i64_xor_b t2 t3 lt2 lt3
      obtain ⟨v1, hv1⟩ : ∃ x, x = t2 ^^^ t3 := ⟨_, rfl⟩
      rw [← hv1] at g1
      have lv1 : v1 < 256 := by rw [hv1]; exact xor_b lt2 lt3
      have g2 := i64_xor_b v1 x2 lv1 l2
      obtain ⟨v2, hv2⟩ : ∃ x, x = v1 ^^^ x2 := ⟨_, rfl⟩
      rw [← hv2] at g2
      have lv2 : v2 < 256 := by rw [hv2]; exact xor_b lv1 l2
      have g3 := i64_xor_b v2 x3 lv2 l3
      obtain ⟨v3, hv3⟩ : ∃ x, x = v2 ^^^ x3 := ⟨_, rfl⟩
      rw [← hv3] at g3
      have hval : v3 = mixS T q0 := by
        subst hr1; subst hr2; subst hr3; subst hs1; subst hs2; subst hs3; subst hm; subst hq0; subst hq1; subst hq2; subst hq3; subst hx0; subst hx1; subst hx2; subst hx3; subst ht2; subst ht3; subst hv1; subst hv2; subst hv3
        exact mixS_at HT.out k cc hlt
      have hct : wr.cell? ⟨gu, q0, none⟩ = some (.int .i64 ((cut (mixS T) (4 * cc + k) q0 : Nat) : Int)) := cell_of H1.out q0 _ (bI_get _ q0 z0)
      have hft : wr.frozen? ⟨gu, q0, none⟩ = false := frozen_of_row _ _ _ _ _ H1.out
      have HWr : Hid ((wr.setCell ⟨gu, q0, none⟩ (.int .i64 (v3 : Int))).heap[gu]? = some (.cells (bI (cut (mixS T) (4 * cc + (k + 1)))) 3 (0, 0))) := hid ((block_set H1.out q0 _).trans (by
        rw [bI_set _ _ _ z0]
        have e : bI (fun j => if j = q0 then v3 else cut (mixS T) (4 * cc + k) j) = bI (cut (mixS T) (4 * cc + (k + 1))) := bI_congr fun i _ => by
          unfold cut
          have hqq : q0 = 4 * cc + k := by rw [hq0, hm, Nat.add_comm]
          clear hr1 hs1 hq1 hr2 hs2 hq2 hr3 hs3 hq3 hx0 hx1 hx2 hx3 p0 p1 p2 p3 p0' p1' p2' p3' a1 a2 a3 b1 b2 b3 d1 d2 d3 e1 e2 e3 e4 e5 f1 f2 f3 c0 c1 c2 c3 hv1 hv2 hv3
          by_cases h : i = q0
          · rw [if_pos h, if_pos (by omega), hval, h]
          · rw [if_neg h]
            by_cases h2 : i < 4 * cc + k
            · rw [if_pos h2, if_pos (by omega)]
            · rw [if_neg h2, if_neg (by omega)]
        rw [e]))
      have H0' : Hid ((wr.setCell ⟨gu, q0, none⟩ (.int .i64 (v3 : Int))).heap[gt]? = some (.cells (bI T) 3 (0, 0))) := hid ((heap_setCell_other _ _ _ _ (by simpa using HNE.out)).trans H0.out)
      have H2' : Hid ((wr.setCell ⟨gu, q0, none⟩ (.int .i64 (v3 : Int))).heap[g]? = some (.cells (bI S) 3 (0, 0))) := hid ((heap_setCell_other _ _ _ _ (by simpa using HNE2.out)).trans H2.out)
      have HR1 := hid hr1
      clear hm hq0 hr1 hs1 hq1 hr2 hs2 hq2 hr3 hs3 hq3 hx0 hx1 hx2 hx3 l0 l1 l2 l3 ht2 ht3 lt2 lt3 hv1 lv1 hv2 lv2 hv3 hval hcc z0 z1 z2 z3
      go_wp2
      refine wp_region_quiet_tail 44 (by kernel_rfl) (by kernel_rfl) ?_
      simp only [List.take_succ_cons, List.take_zero, List.drop_succ_cons, List.drop_zero]
      repeat (quiet_step ((go_at_call 37; first | with_reducible exact KT2.out _ _ | with_reducible exact KT3.out _ _)))
      refine wpQuiet_nil ?_
      intro _ hw'
      obtain ⟨nq, hw''⟩ := hw'
      subst hw''
      go_wp2
      have hk := HK.out
      go_roundg (4 - k - 1)
      case measure => omega
      case rel => exact ⟨k + 1, by omega, by rw [HR1.out], H0'.out, HWr.out, H2'.out, (show Below wb.heap.size wb (wr.drewN nq) from ⟨HB.out.os, HB.out.tape, HB.out.output, HB.out.size, HB.out.block⟩).setCell HGU.out _⟩
    · have hke : k = 4 := by omega
      subst hke
      have hx : ¬ ((4 : Nat) : Int) < 4 := by omega
      clear hx
      go_wp2
      exact hexit _ _ _ _ _ _ _ _ _ _ _ _ _ _ _ _ _ _ _ _ _ _ _ _ _ _ _ _ _ _ _ _ _ _ _ _ _ _ _ _ _ _ _ _ _ _ _ _ _ _ H0.out H1.out H2.out HB.out
set_option maxRecDepth 100000 in
set_option maxHeartbeats 4000000 in
theorem blk11_l5 {Q : Exit → Act → World → Prop} (A' Ab Aw : Option Addr) (c' cb cw g : Nat) (ky : Nat → Nat) (wb w : World) (gt gu : Nat) (S T : Nat → Nat) (t0 t3 t4 t5 t6 t9 t10 t12 t13 t16 t17 t18 t19 t20 t21 t22 t23 t24 t25 t26 t27 t28 t29 t30 t31 t32 t33 t34 t35 t36 t37 t38 t39 t40 t41 t42 t43 t44 t45 t46 t47 t48 t49 t50 t51 t52 t53 t54 t55 t56 t57 t58 t59 t60 t61 t62 t63 t64 t65 t66 t67 t68 t69 t70 t71 t72 t73 t74 t75 t76 t77 t78 t79 t80 t81 t82 t83 t84 t85 t86 t87 t88 t89 t90 t91 t92 t93 t94 t95 t96 t97 t98 t99 t100 t101 t102 t103 t104 t105 t106 t107 t108 t109 t110 t111 t112 t113 t114 t115 t116 t117 t118 t119 t120 t121 t122 t123 t124 t125 t126 t127 t128 t129 t130 t131 t132 t133 t134 t135 t136 t137 t138 t139 t140 t141 t142 t143 t144 t145 t146 t147 t148 t149 t150 t151 t152 t153 t154 t155 t156 t157 t158 t159 t160 t161 t162 t163 t164 t165 t166 t167 t168 t169 t170 t171 : Value) (hT : ∀ i, T i < 256) (hgt : wb.heap.size ≤ gt) (hgu : wb.heap.size ≤ gu) (hgg : wb.heap.size ≤ g) (hne : gt ≠ gu) (hne2 : g ≠ gu) (h0 : w.heap[gt]? = some (.cells (bI (T)) 3 (0, 0))) (h1 : w.heap[gu]? = some (.cells (bI (fun _ => 0)) 3 (0, 0))) (h2 : w.heap[g]? = some (.cells (bI (S)) 3 (0, 0))) (hb : Below wb.heap.size wb w)
    (hexit : ∀ (w' : World) (u16 u81 u82 u83 u84 u85 u86 u87 u88 u89 u90 u91 u92 u93 u94 u95 u96 u97 u98 u99 u100 u101 u102 u103 u104 u105 u106 u107 u108 u109 u110 u111 u112 u113 u114 u115 u116 u117 u118 u119 u120 u121 u122 u123 u124 u125 u126 u127 u128 u129 u130 u131 u132 u133 : Value), w'.heap[gu]? = some (.cells (bI (mixS T)) 3 (0, 0)) → w'.heap[g]? = some (.cells (bI (S)) 3 (0, 0)) → Below wb.heap.size wb w' → Q (.exit 8) ⟨(t0 :: (.slice A' 16 c') :: (.slice Ab 256 cb) :: t3 :: t4 :: t5 :: t6 :: (.slice Aw 44 cw) :: (.slice (some ⟨g, 0, none⟩) 16 16) :: t9 :: t10 :: (.slice (some ⟨gt, 0, none⟩) 16 16) :: t12 :: t13 :: (.slice (some ⟨gu, 0, none⟩) 16 16) :: (.int .i64 4) :: u16 :: t17 :: t18 :: t19 :: t20 :: t21 :: t22 :: t23 :: t24 :: t25 :: t26 :: t27 :: t28 :: t29 :: t30 :: t31 :: t32 :: t33 :: t34 :: t35 :: t36 :: t37 :: t38 :: t39 :: t40 :: t41 :: t42 :: t43 :: t44 :: t45 :: t46 :: t47 :: t48 :: t49 :: t50 :: t51 :: t52 :: t53 :: t54 :: t55 :: t56 :: t57 :: t58 :: t59 :: t60 :: t61 :: t62 :: t63 :: t64 :: t65 :: t66 :: t67 :: t68 :: t69 :: t70 :: t71 :: t72 :: t73 :: t74 :: t75 :: t76 :: t77 :: t78 :: t79 :: t80 :: u81 :: u82 :: u83 :: u84 :: u85 :: u86 :: u87 :: u88 :: u89 :: u90 :: u91 :: u92 :: u93 :: u94 :: u95 :: u96 :: u97 :: u98 :: u99 :: u100 :: u101 :: u102 :: u103 :: u104 :: u105 :: u106 :: u107 :: u108 :: u109 :: u110 :: u111 :: u112 :: u113 :: u114 :: u115 :: u116 :: u117 :: u118 :: u119 :: u120 :: u121 :: u122 :: u123 :: u124 :: u125 :: u126 :: u127 :: u128 :: u129 :: u130 :: u131 :: u132 :: u133 :: t134 :: t135 :: t136 :: t137 :: t138 :: t139 :: t140 :: t141 :: t142 :: t143 :: t144 :: t145 :: t146 :: t147 :: t148 :: t149 :: t150 :: t151 :: t152 :: t153 :: t154 :: t155 :: t156 :: t157 :: t158 :: t159 :: t160 :: t161 :: t162 :: t163 :: t164 :: t165 :: t166 :: t167 :: t168 :: t169 :: t170 :: t171 :: []).toArray, []⟩ w') :
    Code.wp Try.prog (Code.loop (loopN Try.f22 4)) Q ⟨(t0 :: (.slice A' 16 c') :: (.slice Ab 256 cb) :: t3 :: t4 :: t5 :: t6 :: (.slice Aw 44 cw) :: (.slice (some ⟨g, 0, none⟩) 16 16) :: t9 :: t10 :: (.slice (some ⟨gt, 0, none⟩) 16 16) :: t12 :: t13 :: (.slice (some ⟨gu, 0, none⟩) 16 16) :: (.int .i64 0) :: t16 :: t17 :: t18 :: t19 :: t20 :: t21 :: t22 :: t23 :: t24 :: t25 :: t26 :: t27 :: t28 :: t29 :: t30 :: t31 :: t32 :: t33 :: t34 :: t35 :: t36 :: t37 :: t38 :: t39 :: t40 :: t41 :: t42 :: t43 :: t44 :: t45 :: t46 :: t47 :: t48 :: t49 :: t50 :: t51 :: t52 :: t53 :: t54 :: t55 :: t56 :: t57 :: t58 :: t59 :: t60 :: t61 :: t62 :: t63 :: t64 :: t65 :: t66 :: t67 :: t68 :: t69 :: t70 :: t71 :: t72 :: t73 :: t74 :: t75 :: t76 :: t77 :: t78 :: t79 :: t80 :: t81 :: t82 :: t83 :: t84 :: t85 :: t86 :: t87 :: t88 :: t89 :: t90 :: t91 :: t92 :: t93 :: t94 :: t95 :: t96 :: t97 :: t98 :: t99 :: t100 :: t101 :: t102 :: t103 :: t104 :: t105 :: t106 :: t107 :: t108 :: t109 :: t110 :: t111 :: t112 :: t113 :: t114 :: t115 :: t116 :: t117 :: t118 :: t119 :: t120 :: t121 :: t122 :: t123 :: t124 :: t125 :: t126 :: t127 :: t128 :: t129 :: t130 :: t131 :: t132 :: t133 :: t134 :: t135 :: t136 :: t137 :: t138 :: t139 :: t140 :: t141 :: t142 :: t143 :: t144 :: t145 :: t146 :: t147 :: t148 :: t149 :: t150 :: t151 :: t152 :: t153 :: t154 :: t155 :: t156 :: t157 :: t158 :: t159 :: t160 :: t161 :: t162 :: t163 :: t164 :: t165 :: t166 :: t167 :: t168 :: t169 :: t170 :: t171 :: []).toArray, []⟩ w := by
  conv => arg 2; arg 1; whnf
  have h1' : w.heap[gu]? = some (.cells (bI (cut (mixS T) (4 * 0))) 3 (0, 0)) := h1.trans (by
    have e : bI (fun _ => 0) = bI (cut (mixS T) (4 * 0)) := bI_congr fun i _ => by simp [cut]
    rw [e])
  clear h1
  go_loopg [15] 4 (fun q rr wr => ∃ k : Nat, k + q = 4 ∧ rr = .int .i64 (k : Int) ∧ wr.heap[gt]? = some (.cells (bI (T)) 3 (0, 0)) ∧ wr.heap[gu]? = some (.cells (bI (cut (mixS T) (4 * k))) 3 (0, 0)) ∧ wr.heap[g]? = some (.cells (bI (S)) 3 (0, 0)) ∧ Below wb.heap.size wb wr)
  case atStart => exact ⟨0, rfl, rfl, h0, h1', h2, hb⟩
  case round =>
    clear h0 h1' h2 hb
    obtain ⟨k, hk, rfl, h0, h1, h2, hb⟩ := hrel
    have HK := hid hk; have H0 := hid h0; have H1 := hid h1; have H2 := hid h2; have HB := hid hb
    have HGT := hid hgt; have HGU := hid hgu; have HGG := hid hgg; have HNE := hid hne; have HNE2 := hid hne2
    have hk4 : k ≤ 4 := by omega
    clear hk h0 h1 h2 hb hgt hgu hgg hne hne2
    by_cases hlt : k < 4
    · have hx : (k : Int) < 4 := by omega
      clear hexit
      go_wp2
      refine blk11_l6 A' Ab Aw c' cb cw g ky wb wr k gt gu S T _ _ _ _ _ _ _ _ _ _ _ _ _ _ _ _ _ _ _ _ _ _ _ _ _ _ _ _ _ _ _ _ _ _ _ _ _ _ _ _ _ _ _ _ _ _ _ _ _ _ _ _ _ _ _ _ _ _ _ _ _ _ _ _ _ _ _ _ _ _ _ _ _ _ _ _ _ _ _ _ _ _ _ _ _ _ _ _ _ _ _ _ _ _ _ _ _ _ _ _ _ _ _ _ _ _ _ _ _ _ _ _ _ _ _ _ _ _ _ _ _ _ _ _ _ _ _ _ _ _ _ _ _ _ _ _ _ _ _ _ _ _ _ _ _ _ _ _ _ _ _ _ _ _ _ _ _ _ _ _ _ _ _ _ hlt hT HGT.out HGU.out HGG.out HNE.out HNE2.out H0.out H1.out H2.out HB.out ?_
      intro w2 u85 u86 u87 u88 u89 u90 u91 u92 u93 u94 u95 u96 u97 u98 u99 u100 u101 u102 u103 u104 u105 u106 u107 u108 u109 u110 u111 u112 u113 u114 u115 u116 u117 u118 u119 u120 u121 u122 u123 u124 u125 u126 u127 u128 u129 u130 u131 u132 u133 k0 k1 k2 k3
      have K0 := hid k0; have K1 := hid k1; have K2 := hid k2; have K3 := hid k3
      have hwi : IntKind.i64.wrap ((k : Int) + 1) = ((k + 1 : Nat) : Int) := (IntWalk.i64_in _ (by omega)).trans (by omega)
      clear k0 k1 k2 k3
      go_wp2
      have hk := HK.out
      go_roundg (4 - k - 1)
      case measure => omega
      case rel => exact ⟨k + 1, by omega, rfl, K0.out, K1.out, K2.out, K3.out⟩
    · have hke : k = 4 := by omega
      subst hke
      have K1 : Hid (wr.heap[gu]? = some (.cells (bI (mixS T)) 3 (0, 0))) := hid (H1.out.trans (by
        have e : bI (cut (mixS T) (4 * 4)) = bI (mixS T) := bI_congr fun i hi => by unfold cut; rw [if_pos (by omega)]
        rw [e]))
      have hx : ¬ ((4 : Nat) : Int) < 4 := by omega
      clear hx
      go_wp2
      exact hexit _ _ _ _ _ _ _ _ _ _ _ _ _ _ _ _ _ _ _ _ _ _ _ _ _ _ _ _ _ _ _ _ _ _ _ _ _ _ _ _ _ _ _ _ _ _ _ _ _ _ _ _ _ _ _ K1.out H2.out HB.out
end Go.Proofs.Ytojlmlmjmlbjmaa
end
section
namespace Go.Proofs.Ytojlmlmjmlbjmaa
open Go.RowKit
set_option linter.unusedVariables false
set_option linter.unusedSimpArgs false
set_option maxRecDepth 100000 in
set_option maxHeartbeats 4000000 in
theorem blk11_l7 {Q : Exit → Act → World → Prop} (A' Ab Aw : Option Addr) (c' cb cw g : Nat) (ky : Nat → Nat) (wb w : World) (n gt : Nat) (S T : Nat → Nat) (t0 t3 t4 t5 t6 t9 t12 t13 t14 t15 t16 t18 t19 t20 t21 t22 t23 t24 t25 t26 t27 t28 t29 t30 t31 t32 t33 t34 t35 t36 t37 t38 t39 t40 t41 t42 t43 t44 t45 t46 t47 t48 t49 t50 t51 t52 t53 t54 t55 t56 t57 t58 t59 t60 t61 t62 t63 t64 t65 t66 t67 t68 t69 t70 t71 t72 t73 t74 t75 t76 t77 t78 t79 t80 t81 t82 t83 t84 t85 t86 t87 t88 t89 t90 t91 t92 t93 t94 t95 t96 t97 t98 t99 t100 t101 t102 t103 t104 t105 t106 t107 t108 t109 t110 t111 t112 t113 t114 t115 t116 t117 t118 t119 t120 t121 t122 t123 t124 t125 t126 t127 t128 t129 t130 t131 t132 t133 t134 t135 t136 t137 t138 t139 t140 t141 t142 t143 t144 t145 t146 t147 t148 t149 t150 t151 t152 t153 t154 t155 t156 t157 t158 t159 t160 t161 t162 t163 t164 t165 t166 t167 t168 t169 t170 t171 : Value) (hn : n ≤ 10) (hT : ∀ i, T i < 256) (hW : ∀ j, j < 44 → RowAt wb Aw 44 cw ky j) (hky : ∀ i, ky i < 256) (hg : wb.heap.size ≤ g) (hne : gt ≠ g) (h0 : w.heap[g]? = some (.cells (bI (S)) 3 (0, 0))) (h1 : w.heap[gt]? = some (.cells (bI (T)) 3 (0, 0))) (hb : Below wb.heap.size wb w)
    (hexit : ∀ (w' : World) (u135 u136 u137 u138 u139 u140 u141 u142 u143 u144 u145 u146 u147 u148 u149 u150 u151 u152 u153 u154 u155 u156 u157 u158 : Value), w'.heap[g]? = some (.cells (bI (fun i => T i ^^^ kW ky n i)) 3 (0, 0)) → Below wb.heap.size wb w' → Q (.exit 12) ⟨(t0 :: (.slice A' 16 c') :: (.slice Ab 256 cb) :: t3 :: t4 :: t5 :: t6 :: (.slice Aw 44 cw) :: (.slice (some ⟨g, 0, none⟩) 16 16) :: t9 :: (.int .i64 (n : Int)) :: (.slice (some ⟨gt, 0, none⟩) 16 16) :: t12 :: t13 :: t14 :: t15 :: t16 :: (.int .i64 16) :: t18 :: t19 :: t20 :: t21 :: t22 :: t23 :: t24 :: t25 :: t26 :: t27 :: t28 :: t29 :: t30 :: t31 :: t32 :: t33 :: t34 :: t35 :: t36 :: t37 :: t38 :: t39 :: t40 :: t41 :: t42 :: t43 :: t44 :: t45 :: t46 :: t47 :: t48 :: t49 :: t50 :: t51 :: t52 :: t53 :: t54 :: t55 :: t56 :: t57 :: t58 :: t59 :: t60 :: t61 :: t62 :: t63 :: t64 :: t65 :: t66 :: t67 :: t68 :: t69 :: t70 :: t71 :: t72 :: t73 :: t74 :: t75 :: t76 :: t77 :: t78 :: t79 :: t80 :: t81 :: t82 :: t83 :: t84 :: t85 :: t86 :: t87 :: t88 :: t89 :: t90 :: t91 :: t92 :: t93 :: t94 :: t95 :: t96 :: t97 :: t98 :: t99 :: t100 :: t101 :: t102 :: t103 :: t104 :: t105 :: t106 :: t107 :: t108 :: t109 :: t110 :: t111 :: t112 :: t113 :: t114 :: t115 :: t116 :: t117 :: t118 :: t119 :: t120 :: t121 :: t122 :: t123 :: t124 :: t125 :: t126 :: t127 :: t128 :: t129 :: t130 :: t131 :: t132 :: t133 :: t134 :: u135 :: u136 :: u137 :: u138 :: u139 :: u140 :: u141 :: u142 :: u143 :: u144 :: u145 :: u146 :: u147 :: u148 :: u149 :: u150 :: u151 :: u152 :: u153 :: u154 :: u155 :: u156 :: u157 :: u158 :: t159 :: t160 :: t161 :: t162 :: t163 :: t164 :: t165 :: t166 :: t167 :: t168 :: t169 :: t170 :: t171 :: []).toArray, []⟩ w') :
    Code.wp Try.prog (Code.loop (loopN Try.f22 6)) Q ⟨(t0 :: (.slice A' 16 c') :: (.slice Ab 256 cb) :: t3 :: t4 :: t5 :: t6 :: (.slice Aw 44 cw) :: (.slice (some ⟨g, 0, none⟩) 16 16) :: t9 :: (.int .i64 (n : Int)) :: (.slice (some ⟨gt, 0, none⟩) 16 16) :: t12 :: t13 :: t14 :: t15 :: t16 :: (.int .i64 0) :: t18 :: t19 :: t20 :: t21 :: t22 :: t23 :: t24 :: t25 :: t26 :: t27 :: t28 :: t29 :: t30 :: t31 :: t32 :: t33 :: t34 :: t35 :: t36 :: t37 :: t38 :: t39 :: t40 :: t41 :: t42 :: t43 :: t44 :: t45 :: t46 :: t47 :: t48 :: t49 :: t50 :: t51 :: t52 :: t53 :: t54 :: t55 :: t56 :: t57 :: t58 :: t59 :: t60 :: t61 :: t62 :: t63 :: t64 :: t65 :: t66 :: t67 :: t68 :: t69 :: t70 :: t71 :: t72 :: t73 :: t74 :: t75 :: t76 :: t77 :: t78 :: t79 :: t80 :: t81 :: t82 :: t83 :: t84 :: t85 :: t86 :: t87 :: t88 :: t89 :: t90 :: t91 :: t92 :: t93 :: t94 :: t95 :: t96 :: t97 :: t98 :: t99 :: t100 :: t101 :: t102 :: t103 :: t104 :: t105 :: t106 :: t107 :: t108 :: t109 :: t110 :: t111 :: t112 :: t113 :: t114 :: t115 :: t116 :: t117 :: t118 :: t119 :: t120 :: t121 :: t122 :: t123 :: t124 :: t125 :: t126 :: t127 :: t128 :: t129 :: t130 :: t131 :: t132 :: t133 :: t134 :: t135 :: t136 :: t137 :: t138 :: t139 :: t140 :: t141 :: t142 :: t143 :: t144 :: t145 :: t146 :: t147 :: t148 :: t149 :: t150 :: t151 :: t152 :: t153 :: t154 :: t155 :: t156 :: t157 :: t158 :: t159 :: t160 :: t161 :: t162 :: t163 :: t164 :: t165 :: t166 :: t167 :: t168 :: t169 :: t170 :: t171 :: []).toArray, []⟩ w := by
  conv => arg 2; arg 1; whnf
  have HW := hid hW; have HG := hid hg; have HKY := hid hky; have HT := hid hT; have HN := hid hn; have HNE := hid hne
  have h0' : w.heap[g]? = some (.cells (bI (fun j => if j < 0 then T j ^^^ kW ky n j else S j)) 3 (0, 0)) := h0
  clear hW hg h0 hky hT hne
  go_loopg [17] 16 (fun r ii wr => ∃ k : Nat, k + r = 16 ∧ ii = .int .i64 (k : Int) ∧ wr.heap[g]? = some (.cells (bI (fun j => if j < k then T j ^^^ kW ky n j else S j)) 3 (0, 0)) ∧ wr.heap[gt]? = some (.cells (bI (T)) 3 (0, 0)) ∧ Below wb.heap.size wb wr)
  case atStart => exact ⟨0, rfl, rfl, h0', h1, hb⟩
  case round =>
    clear h0' h1 hb
    obtain ⟨k, hk, rfl, hrow, h1, hb⟩ := hrel
    have HK := hid hk; have HR := hid hrow; have H1 := hid h1; have HB := hid hb
    have hk16 : k ≤ 16 := by omega
    clear hk hrow h1 hb
    by_cases hlt : k < 16
    · have hx : (k : Int) < 16 := by omega
      have hk0 : (0 : Int) ≤ (k : Int) := by omega
      clear hexit
      obtain ⟨y, hy⟩ : ∃ y, y = T k := ⟨_, rfl⟩
      have hyl : y < 256 := by rw [hy]; exact HT.out k
      have hcy : wr.cell? ⟨gt, k, none⟩ = some (.int .i64 (y : Int)) := cell_of H1.out k _ (by rw [bI_get _ k hlt, hy])
      obtain ⟨m, hm⟩ : ∃ m, m = 4 * n := ⟨_, rfl⟩
      obtain ⟨q0, hq0⟩ : ∃ q, q = k / 4 := ⟨_, rfl⟩
      obtain ⟨q, hq⟩ : ∃ q, q = m + q0 := ⟨_, rfl⟩
      obtain ⟨r, hr⟩ : ∃ r, r = k % 4 := ⟨_, rfl⟩
      have e1 := i64_4 hm (by omega)
      obtain ⟨hq1, hq2, hqw⟩ := quo4 hq0 (by omega)
      have e2 := i64_s hq (by omega)
      obtain ⟨hr1, hr2, hrw⟩ := rem4 hr (by omega)
      have hq44 : (q : Int) < 44 := by omega
      have hq0' : (0 : Int) ≤ (q : Int) := by omega
      have hr4 : (r : Int) < 4 := by omega
      have hr0 : (0 : Int) ≤ (r : Int) := by omega
      obtain ⟨b1, A1, c1, rfl, hcw, hcw2, hb1, hc1, ⟨g1, rfl, hg1, hd1⟩, hcap1⟩ := HW.out q (by omega)
      have hc1r := (HB.out.cell (p := ⟨b1, q, none⟩) hb1).trans hc1
      have hd1r := (HB.out.cell (p := ⟨g1, r, none⟩) hg1).trans (hd1 r (by omega))
      obtain ⟨x, hxx⟩ : ∃ x, x = dwW ky q r := ⟨_, rfl⟩
      rw [← hxx] at hd1r
      have hxl : x < 256 := by rw [hxx]; exact dwW_lt HKY.out _ _
      have hxe : x = kW ky n k := by rw [kW_dw ky n k hlt, hxx, hq, hr, hq0, hm]
      have hxor := i64_xor_nat' y x (by omega) (by omega)
      obtain ⟨z, hz⟩ : ∃ z, z = y ^^^ x := ⟨_, rfl⟩
      rw [← hz] at hxor
      have hct : wr.cell? ⟨g, k, none⟩ = some (.int .i64 ((S k : Nat) : Int)) := cell_of HR.out k _ (by rw [bI_get _ k hlt, if_neg (Nat.lt_irrefl k)])
      have hft : wr.frozen? ⟨g, k, none⟩ = false := frozen_of_row _ _ _ _ _ HR.out
      have hwi : IntKind.i64.wrap ((k : Int) + 1) = ((k + 1 : Nat) : Int) := (IntWalk.i64_in _ (by omega)).trans (by omega)
      have HWr : Hid ((wr.setCell ⟨g, k, none⟩ (.int .i64 (z : Int))).heap[g]? = some (.cells (bI fun j => if j < k + 1 then T j ^^^ kW ky n j else S j) 3 (0, 0))) := hid ((block_set HR.out k _).trans (by
        rw [bI_set _ _ _ hlt]
        have e : bI (fun q => if q = k then z else if q < k then T q ^^^ kW ky n q else S q) = bI (fun j => if j < k + 1 then T j ^^^ kW ky n j else S j) := bI_congr fun i _ => by
          by_cases h : i = k
          · rw [if_pos h, if_pos (by omega), hz, hy, hxe, h]
          · rw [if_neg h]
            by_cases h2 : i < k
            · rw [if_pos h2, if_pos (by omega)]
            · rw [if_neg h2, if_neg (by omega)]
        rw [e]))
      have H1' : Hid ((wr.setCell ⟨g, k, none⟩ (.int .i64 (z : Int))).heap[gt]? = some (.cells (bI T) 3 (0, 0))) := hid ((heap_setCell_other _ _ _ _ (by simpa using HNE.out)).trans H1.out)
      clear hy hyl hq hq0 hm hr hxx hxl hxe hz hc1 hd1 hb1 hg1 hcap1 hn
      go_wp2
      refine wp_region_still_tail 19 (by kernel_rfl) (by kernel_rfl) ?_
      simp only [List.take_succ_cons, List.take_zero, List.drop_succ_cons, List.drop_zero]
      repeat still_step
      refine wpStill_nil ?_
      change wpList _ _ _ _ _ wr.drew
      go_wp2
      have hk := HK.out
      go_roundg (16 - k - 1)
      case measure => omega
      case rel => exact ⟨k + 1, by omega, rfl, HWr.out, H1'.out, still_drew (HB.out.setCell HG.out _)⟩
    · have hke : k = 16 := by omega
      have HRe : Hid (wr.heap[g]? = some (.cells (bI (fun i => T i ^^^ kW ky n i)) 3 (0, 0))) := hid (HR.out.trans (by
        have e : bI (fun j => if j < k then T j ^^^ kW ky n j else S j) = bI (fun i => T i ^^^ kW ky n i) := bI_congr fun i hi => if_pos (by omega)
        rw [e]))
      subst hke
      have hx : ¬ ((16 : Nat) : Int) < 16 := by omega
      clear hx
      go_wp2
      exact hexit _ _ _ _ _ _ _ _ _ _ _ _ _ _ _ _ _ _ _ _ _ _ _ _ _ HRe.out HB.out
end Go.Proofs.Ytojlmlmjmlbjmaa
end
section
namespace Go.Proofs.Ytojlmlmjmlbjmaa
open Go.RowKit
set_option linter.unusedVariables false
set_option linter.unusedSimpArgs false
/-- The block behind m rounds; behind the last one it is sealed. -/
def rs (ky S : Nat → Nat) (m : Nat) : Nat → Nat := if m = 10 then sealN ky S else rd ky S m
set_option maxRecDepth 100000 in
set_option maxHeartbeats 4000000 in
theorem blk11_l2 {Q : Exit → Act → World → Prop} (A' Ab Aw : Option Addr) (c' cb cw g : Nat) (ky : Nat → Nat) (wb w : World) (S0 : Nat → Nat) (t0 t3 t4 t5 t6 t9 t11 t12 t13 t14 t15 t16 t17 t18 t19 t20 t21 t22 t23 t24 t25 t26 t27 t28 t29 t30 t31 t32 t33 t34 t35 t36 t37 t38 t39 t40 t41 t42 t43 t44 t45 t46 t47 t48 t49 t50 t51 t52 t53 t54 t55 t56 t57 t58 t59 t60 t61 t62 t63 t64 t65 t66 t67 t68 t69 t70 t71 t72 t73 t74 t75 t76 t77 t78 t79 t80 t81 t82 t83 t84 t85 t86 t87 t88 t89 t90 t91 t92 t93 t94 t95 t96 t97 t98 t99 t100 t101 t102 t103 t104 t105 t106 t107 t108 t109 t110 t111 t112 t113 t114 t115 t116 t117 t118 t119 t120 t121 t122 t123 t124 t125 t126 t127 t128 t129 t130 t131 t132 t133 t134 t135 t136 t137 t138 t139 t140 t141 t142 t143 t144 t145 t146 t147 t148 t149 t150 t151 t152 t153 t154 t155 t156 t157 t158 t159 t160 t161 t162 t163 t164 t165 t166 t167 t168 t169 t170 t171 : Value) (hS : ∀ i, S0 i < 256) (hBox : Ints wb wb.heap.size Ab cb boxN 256) (hW : ∀ j, j < 44 → RowAt wb Aw 44 cw ky j) (hky : ∀ i, ky i < 256) (hg : wb.heap.size ≤ g) (h0 : w.heap[g]? = some (.cells (bI (rd ky S0 0)) 3 (0, 0))) (hb : Below wb.heap.size wb w)
    (hexit : ∀ (w' : World) (u11 u12 u13 u14 u15 u16 u17 u46 u47 u48 u49 u50 u51 u52 u53 u54 u55 u56 u57 u58 u59 u60 u61 u62 u63 u64 u65 u66 u67 u68 u69 u70 u71 u72 u73 u74 u75 u76 u77 u78 u79 u80 u81 u82 u83 u84 u85 u86 u87 u88 u89 u90 u91 u92 u93 u94 u95 u96 u97 u98 u99 u100 u101 u102 u103 u104 u105 u106 u107 u108 u109 u110 u111 u112 u113 u114 u115 u116 u117 u118 u119 u120 u121 u122 u123 u124 u125 u126 u127 u128 u129 u130 u131 u132 u133 u134 u135 u136 u137 u138 u139 u140 u141 u142 u143 u144 u145 u146 u147 u148 u149 u150 u151 u152 u153 u154 u155 u156 u157 u158 : Value), w'.heap[g]? = some (.cells (bI (sealN ky S0)) 3 (0, 0)) → Below wb.heap.size wb w' → Q (.exit 2) ⟨(t0 :: (.slice A' 16 c') :: (.slice Ab 256 cb) :: t3 :: t4 :: t5 :: t6 :: (.slice Aw 44 cw) :: (.slice (some ⟨g, 0, none⟩) 16 16) :: t9 :: (.int .i64 11) :: u11 :: u12 :: u13 :: u14 :: u15 :: u16 :: u17 :: t18 :: t19 :: t20 :: t21 :: t22 :: t23 :: t24 :: t25 :: t26 :: t27 :: t28 :: t29 :: t30 :: t31 :: t32 :: t33 :: t34 :: t35 :: t36 :: t37 :: t38 :: t39 :: t40 :: t41 :: t42 :: t43 :: t44 :: t45 :: u46 :: u47 :: u48 :: u49 :: u50 :: u51 :: u52 :: u53 :: u54 :: u55 :: u56 :: u57 :: u58 :: u59 :: u60 :: u61 :: u62 :: u63 :: u64 :: u65 :: u66 :: u67 :: u68 :: u69 :: u70 :: u71 :: u72 :: u73 :: u74 :: u75 :: u76 :: u77 :: u78 :: u79 :: u80 :: u81 :: u82 :: u83 :: u84 :: u85 :: u86 :: u87 :: u88 :: u89 :: u90 :: u91 :: u92 :: u93 :: u94 :: u95 :: u96 :: u97 :: u98 :: u99 :: u100 :: u101 :: u102 :: u103 :: u104 :: u105 :: u106 :: u107 :: u108 :: u109 :: u110 :: u111 :: u112 :: u113 :: u114 :: u115 :: u116 :: u117 :: u118 :: u119 :: u120 :: u121 :: u122 :: u123 :: u124 :: u125 :: u126 :: u127 :: u128 :: u129 :: u130 :: u131 :: u132 :: u133 :: u134 :: u135 :: u136 :: u137 :: u138 :: u139 :: u140 :: u141 :: u142 :: u143 :: u144 :: u145 :: u146 :: u147 :: u148 :: u149 :: u150 :: u151 :: u152 :: u153 :: u154 :: u155 :: u156 :: u157 :: u158 :: t159 :: t160 :: t161 :: t162 :: t163 :: t164 :: t165 :: t166 :: t167 :: t168 :: t169 :: t170 :: t171 :: []).toArray, []⟩ w') :
    Code.wp Try.prog (Code.loop (loopN Try.f22 1)) Q ⟨(t0 :: (.slice A' 16 c') :: (.slice Ab 256 cb) :: t3 :: t4 :: t5 :: t6 :: (.slice Aw 44 cw) :: (.slice (some ⟨g, 0, none⟩) 16 16) :: t9 :: (.int .i64 1) :: t11 :: t12 :: t13 :: t14 :: t15 :: t16 :: t17 :: t18 :: t19 :: t20 :: t21 :: t22 :: t23 :: t24 :: t25 :: t26 :: t27 :: t28 :: t29 :: t30 :: t31 :: t32 :: t33 :: t34 :: t35 :: t36 :: t37 :: t38 :: t39 :: t40 :: t41 :: t42 :: t43 :: t44 :: t45 :: t46 :: t47 :: t48 :: t49 :: t50 :: t51 :: t52 :: t53 :: t54 :: t55 :: t56 :: t57 :: t58 :: t59 :: t60 :: t61 :: t62 :: t63 :: t64 :: t65 :: t66 :: t67 :: t68 :: t69 :: t70 :: t71 :: t72 :: t73 :: t74 :: t75 :: t76 :: t77 :: t78 :: t79 :: t80 :: t81 :: t82 :: t83 :: t84 :: t85 :: t86 :: t87 :: t88 :: t89 :: t90 :: t91 :: t92 :: t93 :: t94 :: t95 :: t96 :: t97 :: t98 :: t99 :: t100 :: t101 :: t102 :: t103 :: t104 :: t105 :: t106 :: t107 :: t108 :: t109 :: t110 :: t111 :: t112 :: t113 :: t114 :: t115 :: t116 :: t117 :: t118 :: t119 :: t120 :: t121 :: t122 :: t123 :: t124 :: t125 :: t126 :: t127 :: t128 :: t129 :: t130 :: t131 :: t132 :: t133 :: t134 :: t135 :: t136 :: t137 :: t138 :: t139 :: t140 :: t141 :: t142 :: t143 :: t144 :: t145 :: t146 :: t147 :: t148 :: t149 :: t150 :: t151 :: t152 :: t153 :: t154 :: t155 :: t156 :: t157 :: t158 :: t159 :: t160 :: t161 :: t162 :: t163 :: t164 :: t165 :: t166 :: t167 :: t168 :: t169 :: t170 :: t171 :: []).toArray, []⟩ w := by
  conv => arg 2; arg 1; whnf
  have HS := hid hS; have HBX := hid hBox; have HW := hid hW; have HKY := hid hky; have HG := hid hg
  have hmk := mkI16
  clear hS hBox hW hky hg
  go_loopg [10] 10 (fun r ii wr => ∃ m : Nat, m + r = 10 ∧ ii = .int .i64 ((m + 1 : Nat) : Int) ∧ wr.heap[g]? = some (.cells (bI (rs ky S0 m)) 3 (0, 0)) ∧ Below wb.heap.size wb wr)
  case atStart => exact ⟨0, rfl, rfl, h0, hb⟩
  case round =>
    clear h0 hb
    obtain ⟨m, hm, rfl, h0, hb⟩ := hrel
    have HM := hid hm; have H0 := hid h0; have HB := hid hb
    have hm10 : m ≤ 10 := by omega
    clear hm h0 hb
    obtain ⟨n, hn⟩ : ∃ n, n = m + 1 := ⟨_, rfl⟩
    rw [← hn]
    by_cases hlt : m < 10
    · have hx : (n : Int) ≤ 10 := by omega
      have hx' : ¬ (10 : Int) < (n : Int) := by omega
      clear hexit
      obtain ⟨X, hX⟩ : ∃ X, X = rd ky S0 m := ⟨_, rfl⟩
      have hXl : ∀ i, X i < 256 := by rw [hX]; exact rd_lt HKY.out HS.out m
      have H0X : Hid (wr.heap[g]? = some (.cells (bI (X)) 3 (0, 0))) := hid (by rw [hX]; have h := H0.out; unfold rs at h; rwa [if_neg (by omega)] at h)
      have hgl : g < wr.heap.size := block_lt H0.out
      have hszb : wb.heap.size ≤ wr.heap.size := HB.out.size
      have HX := hid hX; have HXL := hid hXl; have HN := hid hn; have HGL := hid hgl; have HSZ := hid hszb
      have hw1 : IntKind.i64.wrap ((n : Int) + 1) = ((m + 1 + 1 : Nat) : Int) := (IntWalk.i64_in _ (by omega)).trans (by omega)
      have ha0 : Hid ((wr.alloc (.cells (bI fun _ => 0) 3)).heap[g]? = some (.cells (bI (X)) 3 (0, 0))) := hid (blkA H0X.out _)
      have ha1 : Hid ((wr.alloc (.cells (bI fun _ => 0) 3)).heap[wr.heap.size]? = some (.cells (bI (fun _ => 0)) 3 (0, 0))) := hid (blkN rfl _ _)
      have ha2 : Hid (Below wb.heap.size wb (wr.alloc (.cells (bI fun _ => 0) 3))) := hid (HB.out.alloc HSZ.out _)
      clear hX hXl H0 H0X hgl hszb hn
      go_wp2
      refine blk11_l3 A' Ab Aw c' cb cw g ky wb _ wr.heap.size X _ _ _ _ _ _ _ _ _ _ _ _ _ _ _ _ _ _ _ _ _ _ _ _ _ _ _ _ _ _ _ _ _ _ _ _ _ _ _ _ _ _ _ _ _ _ _ _ _ _ _ _ _ _ _ _ _ _ _ _ _ _ _ _ _ _ _ _ _ _ _ _ _ _ _ _ _ _ _ _ _ _ _ _ _ _ _ _ _ _ _ _ _ _ _ _ _ _ _ _ _ _ _ _ _ _ _ _ _ _ _ _ _ _ _ _ _ _ _ _ _ _ _ _ _ _ _ _ _ _ _ _ _ _ _ _ _ _ _ _ _ _ _ _ _ _ _ _ _ _ _ _ _ _ _ _ _ _ _ _ _ _ _ _ _ _ HXL.out HBX.out HG.out HSZ.out (by have := HGL.out; omega) ha0.out ha1.out ha2.out ?_
      intro w2 u13 u51 u52 u53 u54 u55 u56 u57 u58 u59 u60 u61 u62 u63 u64 u65 u66 u67 u68 u69 u70 u71 u72 u73 u74 u75 u76 u77 k0 k1 k2
      obtain ⟨T, hT⟩ : ∃ T, T = tur (boxS X) := ⟨_, rfl⟩
      rw [← hT] at k1
      have K0 := hid k0; have K1 := hid k1; have K2 := hid k2
      have hTl : ∀ i, T i < 256 := by rw [hT]; exact tur_lt (boxS_lt HXL.out)
      have HT := hid hT; have HTL := hid hTl
      clear k0 k1 k2 hT hTl ha0 ha1 ha2 HB
      by_cases hl : n < 10
      · have hli : (n : Int) < 10 := by omega
        have hz2 : wr.heap.size < w2.heap.size := block_lt K1.out
        have hz3 : wb.heap.size ≤ w2.heap.size := K2.out.size
        have hb0 : Hid ((w2.alloc (.cells (bI fun _ => 0) 3)).heap[wr.heap.size]? = some (.cells (bI (T)) 3 (0, 0))) := hid (blkA K1.out _)
        have hb1 : Hid ((w2.alloc (.cells (bI fun _ => 0) 3)).heap[w2.heap.size]? = some (.cells (bI (fun _ => 0)) 3 (0, 0))) := hid (blkN rfl _ _)
        have hb2 : Hid ((w2.alloc (.cells (bI fun _ => 0) 3)).heap[g]? = some (.cells (bI (X)) 3 (0, 0))) := hid (blkA K0.out _)
        have hb3 : Hid (Below wb.heap.size wb (w2.alloc (.cells (bI fun _ => 0) 3))) := hid (K2.out.alloc hz3 _)
        have HZ2 := hid hz2; have HZ3 := hid hz3
        clear hz2 hz3 K0 K1 K2
        go_wp2
        refine blk11_l5 A' Ab Aw c' cb cw g ky wb _ wr.heap.size w2.heap.size X T _ _ _ _ _ _ _ _ _ _ _ _ _ _ _ _ _ _ _ _ _ _ _ _ _ _ _ _ _ _ _ _ _ _ _ _ _ _ _ _ _ _ _ _ _ _ _ _ _ _ _ _ _ _ _ _ _ _ _ _ _ _ _ _ _ _ _ _ _ _ _ _ _ _ _ _ _ _ _ _ _ _ _ _ _ _ _ _ _ _ _ _ _ _ _ _ _ _ _ _ _ _ _ _ _ _ _ _ _ _ _ _ _ _ _ _ _ _ _ _ _ _ _ _ _ _ _ _ _ _ _ _ _ _ _ _ _ _ _ _ _ _ _ _ _ _ _ _ _ _ _ _ _ _ _ _ _ _ _ _ _ _ _ _ _ HTL.out HSZ.out HZ3.out HG.out (by have := HZ2.out; omega) (by have := HZ2.out; have := HGL.out; omega) hb0.out hb1.out hb2.out hb3.out ?_
        intro w3 u16 u81 u82 u83 u84 u85 u86 u87 u88 u89 u90 u91 u92 u93 u94 u95 u96 u97 u98 u99 u100 u101 u102 u103 u104 u105 u106 u107 u108 u109 u110 u111 u112 u113 u114 u115 u116 u117 u118 u119 u120 u121 u122 u123 u124 u125 u126 u127 u128 u129 u130 u131 u132 u133 k0 k1 k2
        have K0 := hid k0; have K1 := hid k1; have K2 := hid k2
        clear k0 k1 k2 hb0 hb1 hb2 hb3
        go_wp2
        refine blk11_l7 A' Ab Aw c' cb cw g ky wb _ n w2.heap.size X (mixS T) _ _ _ _ _ _ _ _ _ _ _ _ _ _ _ _ _ _ _ _ _ _ _ _ _ _ _ _ _ _ _ _ _ _ _ _ _ _ _ _ _ _ _ _ _ _ _ _ _ _ _ _ _ _ _ _ _ _ _ _ _ _ _ _ _ _ _ _ _ _ _ _ _ _ _ _ _ _ _ _ _ _ _ _ _ _ _ _ _ _ _ _ _ _ _ _ _ _ _ _ _ _ _ _ _ _ _ _ _ _ _ _ _ _ _ _ _ _ _ _ _ _ _ _ _ _ _ _ _ _ _ _ _ _ _ _ _ _ _ _ _ _ _ _ _ _ _ _ _ _ _ _ _ _ _ _ _ _ _ _ _ _ _ _ _ (by omega) (mixS_lt HTL.out) HW.out HKY.out HG.out (by have := HZ2.out; have := HGL.out; omega) K1.out K0.out K2.out ?_
        intro w4 u135 u136 u137 u138 u139 u140 u141 u142 u143 u144 u145 u146 u147 u148 u149 u150 u151 u152 u153 u154 u155 u156 u157 u158 k3 k4
        have K3 : Hid (w4.heap[g]? = some (.cells (bI (rs ky S0 (m + 1))) 3 (0, 0))) := hid (k3.trans (by
          have e : (fun i => mixS T i ^^^ kW ky n i) = rs ky S0 (m + 1) := by
            unfold rs
            rw [if_neg (by have := HN.out; omega), HT.out, HX.out, HN.out]; rfl
          rw [e]))
        have K4 := hid k4
        clear k3 k4 K0 K1 K2
        go_wp2
        have hm := HM.out
        go_roundg (10 - m - 1)
        case measure => omega
        case rel => exact ⟨m + 1, by omega, rfl, K3.out, K4.out⟩
      · have hli : ¬ (n : Int) < 10 := by omega
        go_wp2
        refine blk11_l7 A' Ab Aw c' cb cw g ky wb _ n wr.heap.size X T _ _ _ _ _ _ _ _ _ _ _ _ _ _ _ _ _ _ _ _ _ _ _ _ _ _ _ _ _ _ _ _ _ _ _ _ _ _ _ _ _ _ _ _ _ _ _ _ _ _ _ _ _ _ _ _ _ _ _ _ _ _ _ _ _ _ _ _ _ _ _ _ _ _ _ _ _ _ _ _ _ _ _ _ _ _ _ _ _ _ _ _ _ _ _ _ _ _ _ _ _ _ _ _ _ _ _ _ _ _ _ _ _ _ _ _ _ _ _ _ _ _ _ _ _ _ _ _ _ _ _ _ _ _ _ _ _ _ _ _ _ _ _ _ _ _ _ _ _ _ _ _ _ _ _ _ _ _ _ _ _ _ _ _ _ (by omega) HTL.out HW.out HKY.out HG.out (by have := HGL.out; omega) K0.out K1.out K2.out ?_
        intro w4 u135 u136 u137 u138 u139 u140 u141 u142 u143 u144 u145 u146 u147 u148 u149 u150 u151 u152 u153 u154 u155 u156 u157 u158 k3 k4
        have K3 : Hid (w4.heap[g]? = some (.cells (bI (rs ky S0 (m + 1))) 3 (0, 0))) := hid (k3.trans (by
          have e : (fun i => T i ^^^ kW ky n i) = rs ky S0 (m + 1) := by
            unfold rs
            rw [if_pos (by have := HN.out; omega), HT.out, HX.out, show m = 9 by have := HN.out; omega, show n = 10 by have := HN.out; omega]; rfl
          rw [e]))
        have K4 := hid k4
        clear k3 k4 K0 K1 K2
        go_wp2
        have hm := HM.out
        go_roundg (10 - m - 1)
        case measure => omega
        case rel => exact ⟨m + 1, by omega, rfl, K3.out, K4.out⟩
    · have hme : m = 10 := by omega
      subst hme
      subst hn
      have K3 : Hid (wr.heap[g]? = some (.cells (bI (sealN ky S0)) 3 (0, 0))) := hid (by have h := H0.out; unfold rs at h; rwa [if_pos rfl] at h)
      go_wp2
      exact hexit _ _ _ _ _ _ _ _ _ _ _ _ _ _ _ _ _ _ _ _ _ _ _ _ _ _ _ _ _ _ _ _ _ _ _ _ _ _ _ _ _ _ _ _ _ _ _ _ _ _ _ _ _ _ _ _ _ _ _ _ _ _ _ _ _ _ _ _ _ _ _ _ _ _ _ _ _ _ _ _ _ _ _ _ _ _ _ _ _ _ _ _ _ _ _ _ _ _ _ _ _ _ _ _ _ _ _ _ _ _ _ _ _ _ _ _ _ _ _ _ _ K3.out HB.out
end Go.Proofs.Ytojlmlmjmlbjmaa
end
section
namespace Go.Proofs.Ytojlmlmjmlbjmaa
open Go.RowKit
set_option linter.unusedVariables false
set_option linter.unusedSimpArgs false
/-- The first k bytes. -/
def bkN (Z : Nat → Nat) (k : Nat) : List UInt8 := (List.range k).map fun i => UInt8.ofNat (Z i)
theorem blkN_length (Z : Nat → Nat) (k : Nat) : (bkN Z k).length = k := by simp [bkN]
theorem blkN_succ (Z : Nat → Nat) (k : Nat) : bkN Z (k + 1) = bkN Z k ++ [UInt8.ofNat (Z k)] := by unfold bkN; rw [List.range_succ, List.map_append]; rfl
set_option maxRecDepth 100000 in
set_option maxHeartbeats 4000000 in
theorem blk11_l8 {Q : Exit → Act → World → Prop} (A' Ab Aw : Option Addr) (c' cb cw g : Nat) (ky : Nat → Nat) (wb w : World) (Z : Nat → Nat) (t0 t3 t4 t5 t6 t9 t10 t11 t12 t13 t14 t15 t16 t17 t20 t21 t22 t23 t24 t25 t26 t27 t28 t29 t30 t31 t32 t33 t34 t35 t36 t37 t38 t39 t40 t41 t42 t43 t44 t45 t46 t47 t48 t49 t50 t51 t52 t53 t54 t55 t56 t57 t58 t59 t60 t61 t62 t63 t64 t65 t66 t67 t68 t69 t70 t71 t72 t73 t74 t75 t76 t77 t78 t79 t80 t81 t82 t83 t84 t85 t86 t87 t88 t89 t90 t91 t92 t93 t94 t95 t96 t97 t98 t99 t100 t101 t102 t103 t104 t105 t106 t107 t108 t109 t110 t111 t112 t113 t114 t115 t116 t117 t118 t119 t120 t121 t122 t123 t124 t125 t126 t127 t128 t129 t130 t131 t132 t133 t134 t135 t136 t137 t138 t139 t140 t141 t142 t143 t144 t145 t146 t147 t148 t149 t150 t151 t152 t153 t154 t155 t156 t157 t158 t159 t160 t161 t162 t163 t164 t165 t166 t167 t168 t169 t170 t171 : Value) (hZ : ∀ i, Z i < 256) (h0 : w.heap[g]? = some (.cells (bI (Z)) 3 (0, 0)))
    (hexit : ∀ (w' : World) (u18 u159 u160 u161 u162 u163 u164 u165 u166 u167 u168 u169 u170 : Value), OwnB w' w.heap.size u18 (bkN Z 16) → Below w.heap.size w w' → Q (.exit 14) ⟨(t0 :: (.slice A' 16 c') :: (.slice Ab 256 cb) :: t3 :: t4 :: t5 :: t6 :: (.slice Aw 44 cw) :: (.slice (some ⟨g, 0, none⟩) 16 16) :: t9 :: t10 :: t11 :: t12 :: t13 :: t14 :: t15 :: t16 :: t17 :: u18 :: (.int .i64 16) :: t20 :: t21 :: t22 :: t23 :: t24 :: t25 :: t26 :: t27 :: t28 :: t29 :: t30 :: t31 :: t32 :: t33 :: t34 :: t35 :: t36 :: t37 :: t38 :: t39 :: t40 :: t41 :: t42 :: t43 :: t44 :: t45 :: t46 :: t47 :: t48 :: t49 :: t50 :: t51 :: t52 :: t53 :: t54 :: t55 :: t56 :: t57 :: t58 :: t59 :: t60 :: t61 :: t62 :: t63 :: t64 :: t65 :: t66 :: t67 :: t68 :: t69 :: t70 :: t71 :: t72 :: t73 :: t74 :: t75 :: t76 :: t77 :: t78 :: t79 :: t80 :: t81 :: t82 :: t83 :: t84 :: t85 :: t86 :: t87 :: t88 :: t89 :: t90 :: t91 :: t92 :: t93 :: t94 :: t95 :: t96 :: t97 :: t98 :: t99 :: t100 :: t101 :: t102 :: t103 :: t104 :: t105 :: t106 :: t107 :: t108 :: t109 :: t110 :: t111 :: t112 :: t113 :: t114 :: t115 :: t116 :: t117 :: t118 :: t119 :: t120 :: t121 :: t122 :: t123 :: t124 :: t125 :: t126 :: t127 :: t128 :: t129 :: t130 :: t131 :: t132 :: t133 :: t134 :: t135 :: t136 :: t137 :: t138 :: t139 :: t140 :: t141 :: t142 :: t143 :: t144 :: t145 :: t146 :: t147 :: t148 :: t149 :: t150 :: t151 :: t152 :: t153 :: t154 :: t155 :: t156 :: t157 :: t158 :: u159 :: u160 :: u161 :: u162 :: u163 :: u164 :: u165 :: u166 :: u167 :: u168 :: u169 :: u170 :: t171 :: []).toArray, []⟩ w') :
    Code.wp Try.prog (Code.loop (loopN Try.f22 7)) Q ⟨(t0 :: (.slice A' 16 c') :: (.slice Ab 256 cb) :: t3 :: t4 :: t5 :: t6 :: (.slice Aw 44 cw) :: (.slice (some ⟨g, 0, none⟩) 16 16) :: t9 :: t10 :: t11 :: t12 :: t13 :: t14 :: t15 :: t16 :: t17 :: (.slice none 0 0) :: (.int .i64 0) :: t20 :: t21 :: t22 :: t23 :: t24 :: t25 :: t26 :: t27 :: t28 :: t29 :: t30 :: t31 :: t32 :: t33 :: t34 :: t35 :: t36 :: t37 :: t38 :: t39 :: t40 :: t41 :: t42 :: t43 :: t44 :: t45 :: t46 :: t47 :: t48 :: t49 :: t50 :: t51 :: t52 :: t53 :: t54 :: t55 :: t56 :: t57 :: t58 :: t59 :: t60 :: t61 :: t62 :: t63 :: t64 :: t65 :: t66 :: t67 :: t68 :: t69 :: t70 :: t71 :: t72 :: t73 :: t74 :: t75 :: t76 :: t77 :: t78 :: t79 :: t80 :: t81 :: t82 :: t83 :: t84 :: t85 :: t86 :: t87 :: t88 :: t89 :: t90 :: t91 :: t92 :: t93 :: t94 :: t95 :: t96 :: t97 :: t98 :: t99 :: t100 :: t101 :: t102 :: t103 :: t104 :: t105 :: t106 :: t107 :: t108 :: t109 :: t110 :: t111 :: t112 :: t113 :: t114 :: t115 :: t116 :: t117 :: t118 :: t119 :: t120 :: t121 :: t122 :: t123 :: t124 :: t125 :: t126 :: t127 :: t128 :: t129 :: t130 :: t131 :: t132 :: t133 :: t134 :: t135 :: t136 :: t137 :: t138 :: t139 :: t140 :: t141 :: t142 :: t143 :: t144 :: t145 :: t146 :: t147 :: t148 :: t149 :: t150 :: t151 :: t152 :: t153 :: t154 :: t155 :: t156 :: t157 :: t158 :: t159 :: t160 :: t161 :: t162 :: t163 :: t164 :: t165 :: t166 :: t167 :: t168 :: t169 :: t170 :: t171 :: []).toArray, []⟩ w := by
  conv => arg 2; arg 1; whnf
  have HZ := hid hZ; have H0 := hid h0
  have HGL : Hid (g < w.heap.size) := hid (block_lt h0)
  clear hZ h0
  go_loopg [18, 19] 16 (fun r v ii wr => ∃ k : Nat, k + r = 16 ∧ ii = .int .i64 (k : Int) ∧ OwnB wr w.heap.size v (bkN Z k) ∧ Below w.heap.size w wr)
  case atStart => exact ⟨0, rfl, rfl, World.ownsRow_nil _ _ _ _, Below.refl _ _⟩
  case round =>
    obtain ⟨k, hk, rfl, ho, hb⟩ := hrel
    have HK := hid hk; have HO := hid ho; have HB := hid hb
    have hk16 : k ≤ 16 := by omega
    clear hk ho hb
    by_cases hlt : k < 16
    · have hx : (k : Int) < 16 := by omega
      have hk0 : (0 : Int) ≤ (k : Int) := by omega
      clear hexit
      obtain ⟨y, hy⟩ : ∃ y, y = Z k := ⟨_, rfl⟩
      have hyl : y < 256 := by rw [hy]; exact HZ.out k
      have hcy : wr.cell? ⟨g, k, none⟩ = some (.int .i64 (y : Int)) := (HB.out.cell (p := ⟨g, k, none⟩) HGL.out).trans (cell_of H0.out k _ (by rw [bI_get _ k hlt, hy]))
      have hym : (y : Int) % 256 = (y : Int) := by omega
      have hyw : IntKind.u8.wrap (y : Int) = (y : Int) := by rw [IntKind.wrap_u8]; exact hym
      have HY := hid hy; have HYL := hid hyl
      have HO1 := hid (World.ownsRow.alloc HO.out (.cells #[.int .u8 (y : Int)] 5))
      have hlen : (bkN Z k).length = k := blkN_length Z k
      have hsz := HB.out.size
      have hwi : IntKind.i64.wrap ((k : Int) + 1) = ((k + 1 : Nat) : Int) := (IntWalk.i64_in _ (by omega)).trans (by omega)
      clear hy hyl HO
      go_wp2_with (at_builtin; refine wpList_append_lie rfl _ _ 22 rfl w.heap.size 5 (.int .u8 0) 1 Try.underlying22 infoU8 rfl rfl HO1.out rfl rfl (Lie.new1 _ _ _) (by intro u hu; simp at hu; subst hu; rfl) ?e1 ?e2 ?e3 ?_)
      case e1 => rw [hlen]; first | (rw [List.length_singleton]; unfold maxLen; omega) | (unfold maxLen; omega)
      case e2 => rw [hlen]; first | (rw [List.length_singleton]; omega) | omega
      case e3 => first | (simp; omega) | omega
      intro v3 w3 hown3 hg3 _
      have hb3 : Below w.heap.size w w3 := (HB.out.alloc hsz _).grown hg3 (by simp; omega) (fun q h => own_lt HO1.out q h)
      have HO3 : Hid (OwnB w3 w.heap.size v3 (bkN Z (k + 1))) := hid (by
        rw [blkN_succ]
        exact own_snoc hown3 (by rw [blkN_length]) (by rw [← HY.out, ofNat_b HYL.out]))
      have HB3 := hid hb3
      clear hown3 hg3 hb3 HO1 HB hsz
      go_wp2
      have hk := HK.out
      go_roundg (16 - k - 1)
      case measure => omega
      case rel => exact ⟨k + 1, by omega, rfl, HO3.out, HB3.out⟩
    · have hke : k = 16 := by omega
      subst hke
      have hx : ¬ ((16 : Nat) : Int) < 16 := by omega
      clear hx
      go_wp2
      exact hexit _ _ _ _ _ _ _ _ _ _ _ _ _ _ HO.out HB.out
end Go.Proofs.Ytojlmlmjmlbjmaa
end
section
namespace Go.Proofs.Ytojlmlmjmlbjmaa
open Go.RowKit
set_option linter.unusedVariables false
set_option linter.unusedSimpArgs false
set_option maxRecDepth 100000 in
set_option maxHeartbeats 4000000 in
theorem Block11_any (A A' Ab : Option Addr) (key blk : List UInt8) (n n' nb c c' cb : Nat) (w : World) (hA : Sq w w.heap.size A c (bvs key)) (hA' : Sq w w.heap.size A' c' (bvs blk)) (hkey : key.length = 16) (hblk : blk.length = 16) (hn : n = 16) (hn' : n' = 16) (hnb : nb = 256) (hBox : Ints w w.heap.size Ab cb boxN 256) :
    Calls Try.prog 22 #[.slice A n c, .slice A' n' c', .slice Ab nb cb] w fun e w' => ∃ v, e = .returned v ∧ OwnB w' w.heap.size v (blkL (sealN (bf key) (bf blk))) ∧ Below w.heap.size w w' := by
  subst hn; subst hn'; subst hnb
  have hcap := hA'.cap
  rw [bvs_length, hblk] at hcap
  have KW := hid (Words11_any A Ab 16 256 c cb key w hA hkey rfl rfl hBox)
  have HA := hid hA'; have HBX := hid hBox; have HBLK := hid hblk; have HCAP := hid hcap
  have hmk := mkI16
  clear hA hA' hBox hkey hblk hcap
  go_enter Try.func22, Try.ntmps22
  go_wp2_with fail
  refine KW.out.mono ?_
  rintro e wb ⟨Aw, cw, rfl, hW, hb⟩
  have HW := hid hW; have HB := hid hb
  have HBX1 := hid ((HBX.out.below hb).more hb.size)
  have HL1 : Hid (Lie wb wb.heap.size A' (bvs blk)) := hid ((HA.out.below hb).more hb.size).lie
  have a0 : Hid ((wb.alloc (.cells (bI fun _ => 0) 3)).heap[wb.heap.size]? = some (.cells (bI (fun _ => 0)) 3 (0, 0))) := hid (heap_alloc_new wb _)
  have a1 : Hid (Below wb.heap.size wb (wb.alloc (.cells (bI fun _ => 0) 3))) := hid ((Below.refl _ _).alloc (Nat.le_refl _) _)
  clear hW hb KW HA HBX
  go_wp2
  refine blk11_l1 A' Ab Aw c' cb cw wb.heap.size (bf key) wb _ blk _ _ _ _ _ _ _ _ _ _ _ _ _ _ _ _ _ _ _ _ _ _ _ _ _ _ _ _ _ _ _ _ _ _ _ _ _ _ _ _ _ _ _ _ _ _ _ _ _ _ _ _ _ _ _ _ _ _ _ _ _ _ _ _ _ _ _ _ _ _ _ _ _ _ _ _ _ _ _ _ _ _ _ _ _ _ _ _ _ _ _ _ _ _ _ _ _ _ _ _ _ _ _ _ _ _ _ _ _ _ _ _ _ _ _ _ _ _ _ _ _ _ _ _ _ _ _ _ _ _ _ _ _ _ _ _ _ _ _ _ _ _ _ _ _ _ _ _ _ _ _ _ _ _ _ _ _ _ _ _ _ _ _ _ _ _ _ HBLK.out HL1.out HCAP.out HW.out (bf_lt key) (Nat.le_refl _) a0.out a1.out ?_
  intro w2 u24 u25 u26 u27 u28 u29 u30 u31 u32 u33 u34 u35 u36 u37 u38 u39 u40 u41 u42 u43 u44 u45 k0 k1
  have K0 : Hid (w2.heap[wb.heap.size]? = some (.cells (bI (rd (bf key) (bf blk) 0)) 3 (0, 0))) := hid k0
  have K1 := hid k1
  clear k0 k1 a0 a1
  go_wp2
  refine blk11_l2 A' Ab Aw c' cb cw wb.heap.size (bf key) wb _ (bf blk) _ _ _ _ _ _ _ _ _ _ _ _ _ _ _ _ _ _ _ _ _ _ _ _ _ _ _ _ _ _ _ _ _ _ _ _ _ _ _ _ _ _ _ _ _ _ _ _ _ _ _ _ _ _ _ _ _ _ _ _ _ _ _ _ _ _ _ _ _ _ _ _ _ _ _ _ _ _ _ _ _ _ _ _ _ _ _ _ _ _ _ _ _ _ _ _ _ _ _ _ _ _ _ _ _ _ _ _ _ _ _ _ _ _ _ _ _ _ _ _ _ _ _ _ _ _ _ _ _ _ _ _ _ _ _ _ _ _ _ _ _ _ _ _ _ _ _ _ _ _ _ _ _ _ _ _ _ _ _ _ _ _ _ _ _ _ _ (bf_lt blk) HBX1.out HW.out (bf_lt key) (Nat.le_refl _) K0.out K1.out ?_
  intro w3 u11 u12 u13 u14 u15 u16 u17 u46 u47 u48 u49 u50 u51 u52 u53 u54 u55 u56 u57 u58 u59 u60 u61 u62 u63 u64 u65 u66 u67 u68 u69 u70 u71 u72 u73 u74 u75 u76 u77 u78 u79 u80 u81 u82 u83 u84 u85 u86 u87 u88 u89 u90 u91 u92 u93 u94 u95 u96 u97 u98 u99 u100 u101 u102 u103 u104 u105 u106 u107 u108 u109 u110 u111 u112 u113 u114 u115 u116 u117 u118 u119 u120 u121 u122 u123 u124 u125 u126 u127 u128 u129 u130 u131 u132 u133 u134 u135 u136 u137 u138 u139 u140 u141 u142 u143 u144 u145 u146 u147 u148 u149 u150 u151 u152 u153 u154 u155 u156 u157 u158 k2 k3
  have K2 := hid k2; have K3 := hid k3
  clear k2 k3 K0 K1
  go_wp2
  refine blk11_l8 A' Ab Aw c' cb cw wb.heap.size (bf key) wb w3 (sealN (bf key) (bf blk)) _ _ _ _ _ _ _ _ _ _ _ _ _ _ _ _ _ _ _ _ _ _ _ _ _ _ _ _ _ _ _ _ _ _ _ _ _ _ _ _ _ _ _ _ _ _ _ _ _ _ _ _ _ _ _ _ _ _ _ _ _ _ _ _ _ _ _ _ _ _ _ _ _ _ _ _ _ _ _ _ _ _ _ _ _ _ _ _ _ _ _ _ _ _ _ _ _ _ _ _ _ _ _ _ _ _ _ _ _ _ _ _ _ _ _ _ _ _ _ _ _ _ _ _ _ _ _ _ _ _ _ _ _ _ _ _ _ _ _ _ _ _ _ _ _ _ _ _ _ _ _ _ _ _ _ _ _ _ _ _ _ _ _ _ _ _ (sealN_lt (bf_lt key) (bf_lt blk)) K2.out ?_
  intro w4 u18 u159 u160 u161 u162 u163 u164 u165 u166 u167 u168 u169 u170 ho hb4
  have HO := hid ho; have HB4 := hid hb4
  clear ho hb4
  go_wp2
  go_ret
  exact ⟨_, rfl, own_base HO.out (Nat.le_trans HB.out.size K3.out.size), HB.out.trans ((K3.out.trans (HB4.out.mono K3.out.size)).mono HB.out.size)⟩
end Go.Proofs.Ytojlmlmjmlbjmaa
end
section
namespace Go.Proofs.Ytojlmlmjmlbjmaa
open Go.RowKit
set_option linter.unusedVariables false
set_option linter.unusedSimpArgs false
/-- A number in n bytes, the highest first: the byte i. -/
def lenB (N i : Nat) : Nat := N / 256 ^ (7 - i) % 256
theorem lenB_lt (N i : Nat) : lenB N i < 256 := Nat.mod_lt _ (by decide)
/-- Eight bytes. -/
def eightL (f : Nat → Nat) : List UInt8 := (List.range 8).map fun i => UInt8.ofNat (f i)
theorem eightL_length (f : Nat → Nat) : (eightL f).length = 8 := by simp [eightL]
theorem eightL_congr {S T : Nat → Nat} (h : ∀ i, i < 8 → S i = T i) : eightL S = eightL T := by
  unfold eightL
  exact List.map_congr_left fun i hi => by rw [h i (by simpa using hi)]
def b8R (S : Nat → Nat) : Array Value := (bvs (eightL S)).toArray
theorem eightL_at (S : Nat → Nat) (i : Nat) (h : i < 8) : (eightL S)[i]'(by rw [eightL_length]; exact h) = UInt8.ofNat (S i) := by simp [eightL]
theorem b8R_get (S : Nat → Nat) (hS : ∀ i, S i < 256) (k : Nat) (h : k < 8) : (b8R S)[k]? = some (.int .u8 ((S k : Nat) : Int)) := by
  unfold b8R
  rw [List.getElem?_toArray, bvs_cell _ k (by rw [eightL_length]; exact h), eightL_at _ k h, ofNat_b (hS k)]
theorem eightL_set (S : Nat → Nat) (k v : Nat) : (eightL S).set k (UInt8.ofNat v) = eightL fun q => if q = k then v else S q := by
  apply List.ext_getElem
  · simp [eightL]
  · intro i h1 h2
    rw [List.getElem_set]
    have hi : i < 8 := by simpa [eightL] using h2
    rw [eightL_at (fun q => if q = k then v else S q) i hi]
    by_cases h : k = i
    · rw [if_pos h, if_pos h.symm]
    · rw [if_neg h, if_neg (Ne.symm h), eightL_at _ i hi]
theorem b8R_set (S : Nat → Nat) (k v : Nat) (hv : v < 256) : (b8R S).setIfInBounds k (.int .u8 (v : Int)) = b8R fun q => if q = k then v else S q := by
  unfold b8R
  rw [← eightL_set, bvs_set_at, ofNat_b hv, List.setIfInBounds_toArray]
theorem b8R_congr {S T : Nat → Nat} (h : ∀ i, i < 8 → S i = T i) : b8R S = b8R T := by unfold b8R; rw [eightL_congr h]
theorem mk8 (W : World) : (Instr.makeSlice 22 (.int .i64 8) (.int .i64 8)).run Try.prog W = .ok (.slice (some ⟨W.heap.size, 0, none⟩) 8 8) (W.alloc (.cells (b8R fun _ => 0) 5)) := by
  have h := run_make_row' (P := Try.prog) 22 5 (.int .u8 0) 1 Try.underlying22 infoU8 rfl .i64 .i64 8 (by omega) (by omega) W
  have hz : madeCells #[Value.int .u8 0] 8 = b8R fun _ => 0 := by
    have e := toList_madeCells_one (Value.int .u8 0) 8
    refine Array.toList_inj.1 ?_
    rw [e]
    rfl
  rw [hz] at h
  exact h
set_option maxHeartbeats 1000000 in
theorem bits12_any (n : Nat) (w : World) (hn : n ≤ 1000000) :
    Calls Try.prog 24 #[.int .i64 (n : Int)] w fun e w' => ∃ v, e = .returned v ∧ OwnB w' w.heap.size v (eightL (lenB (8 * n))) ∧ Below w.heap.size w w' := by
  obtain ⟨N, hN⟩ : ∃ N, N = 8 * n := ⟨_, rfl⟩
  rw [← hN]
  have hNw : IntKind.i64.wrap (8 * (n : Int)) = (N : Int) := (IntWalk.i64_in _ (by omega)).trans (by omega)
  have HNL : Hid (N ≤ 8000000) := hid (by omega)
  have hmk := mk8
  clear hN hn
  go_enter Try.func24, Try.ntmps24
  go_wp2
  clear hmk hNw
  have H1 : Hid ((w.alloc (.cells (b8R fun _ => 0) 5)).heap[w.heap.size]? = some (.cells (b8R fun i => if 8 - 0 ≤ i then lenB N i else 0) 5 (0, 0))) := hid ((heap_alloc_new w _).trans (by
    have e : b8R (fun _ => 0) = b8R (fun i => if 8 - 0 ≤ i then lenB N i else 0) := b8R_congr fun i hi => by rw [if_neg (by omega)]
    rw [e]))
  have HB : Hid (Below w.heap.size w (w.alloc (.cells (b8R fun _ => 0) 5))) := hid ((Below.refl _ _).alloc (Nat.le_refl _) _)
  generalize w.alloc (.cells (b8R fun _ => 0) 5) = w0 at *
  go_loopg [0, 4] 8 (fun g x ii wr => ∃ k : Nat, k + g = 8 ∧ ii = .int .i64 (7 - (k : Int)) ∧ x = .int .i64 ((N / 256 ^ k : Nat) : Int) ∧ wr.heap[w.heap.size]? = some (.cells (b8R fun i => if 8 - k ≤ i then lenB N i else 0) 5 (0, 0)) ∧ Below w.heap.size w wr)
  case atStart => exact ⟨0, rfl, rfl, by simp, H1.out, HB.out⟩
  case round =>
    clear H1 HB
    obtain ⟨k, hk, rfl, rfl, h1, hb⟩ := hrel
    have HK := hid hk; have H1 := hid h1; have HB := hid hb
    have hk8 : k ≤ 8 := by omega
    obtain ⟨x, hx⟩ : ∃ x, x = N / 256 ^ k := ⟨_, rfl⟩
    have hxl : x ≤ 8000000 := by rw [hx]; exact Nat.le_trans (Nat.div_le_self _ _) HNL.out
    rw [← hx]
    have HX := hid hx
    clear hk h1 hb hx
    obtain ⟨i, hi⟩ : ∃ i : Int, i = 7 - (k : Int) := ⟨_, rfl⟩
    rw [← hi]
    by_cases hlt : k < 8
    · obtain ⟨j, hj⟩ : ∃ j, j = 7 - k := ⟨_, rfl⟩
      have hij : i = (j : Int) := by omega
      subst hij
      have hj0 : (0 : Int) ≤ (j : Int) := by omega
      have hj8 : (j : Int) < 8 := by omega
      obtain ⟨r, hr⟩ : ∃ r, r = x % 256 := ⟨_, rfl⟩
      obtain ⟨q, hq⟩ : ∃ q, q = x / 256 := ⟨_, rfl⟩
      have hr1 : ((x : Int)).tmod 256 = (r : Int) := by rw [Int.tmod_eq_emod_of_nonneg (by omega)]; omega
      have hr2 : (x : Int) % 256 = (r : Int) := by omega
      have hrw : IntKind.i64.wrap (r : Int) = (r : Int) := IntWalk.i64_in _ (by omega)
      have hrl : r < 256 := by omega
      have hrm : (r : Int) % 256 = (r : Int) := by omega
      have hru : IntKind.u8.wrap (r : Int) = (r : Int) := by rw [IntKind.wrap_u8]; exact hrm
      have hq1 : ((x : Int)).tdiv 256 = (q : Int) := by rw [Int.tdiv_eq_ediv_of_nonneg (by omega)]; omega
      have hq2 : (x : Int) / 256 = (q : Int) := by omega
      have hqw : IntKind.i64.wrap (q : Int) = (q : Int) := IntWalk.i64_in _ (by omega)
      have hjw : IntKind.i64.wrap ((j : Int) - 1) = 7 - ((k + 1 : Nat) : Int) := (IntWalk.i64_in _ (by omega)).trans (by omega)
      have hct : wr.cell? ⟨w.heap.size, j, none⟩ = some (.int .u8 ((0 : Nat) : Int)) := cell_of H1.out j _ ((b8R_get _ (fun i => by split <;> simp [lenB_lt]) j (by omega)).trans (by rw [if_neg (by omega)]))
      have hft : wr.frozen? ⟨w.heap.size, j, none⟩ = false := frozen_of_row _ _ _ _ _ H1.out
      have HW : Hid ((wr.setCell ⟨w.heap.size, j, none⟩ (.int .u8 (r : Int))).heap[w.heap.size]? = some (.cells (b8R fun i => if 8 - (k + 1) ≤ i then lenB N i else 0) 5 (0, 0))) := hid ((block_set H1.out j _).trans (by
        rw [b8R_set _ _ _ hrl]
        have e : b8R (fun q => if q = j then r else if 8 - k ≤ q then lenB N q else 0) = b8R (fun i => if 8 - (k + 1) ≤ i then lenB N i else 0) := b8R_congr fun i _ => by
          by_cases h : i = j
          · rw [if_pos h, if_pos (by omega), hr, HX.out, h, lenB, show 7 - j = k by omega]
          · rw [if_neg h]
            by_cases h2 : 8 - k ≤ i
            · rw [if_pos h2, if_pos (by omega)]
            · rw [if_neg h2, if_neg (by omega)]
        rw [e]))
      have HQ : Hid (q = N / 256 ^ (k + 1)) := hid (by rw [hq, HX.out, Nat.pow_succ, Nat.div_div_eq_div_mul])
      clear hr hq hrl hj hi hxl
      go_wp2
      have hk := HK.out
      go_roundg (8 - k - 1)
      case measure => omega
      case rel => exact ⟨k + 1, by omega, rfl, by rw [HQ.out], HW.out, HB.out.setCell (by simp) _⟩
    · have hi0 : ¬ (0 : Int) ≤ i := by omega
      have H1' : Hid (wr.heap[w.heap.size]? = some (.cells (b8R (lenB N)) 5 (0, 0))) := hid (H1.out.trans (by
        have e : b8R (fun i => if 8 - k ≤ i then lenB N i else 0) = b8R (lenB N) := b8R_congr fun i _ => if_pos (by omega)
        rw [e]))
      clear hi hlt
      go_wp2
      go_ret
      refine ⟨_, rfl, ⟨by rw [bvs_length, eightL_length], .inr ⟨w.heap.size, 8, b8R (lenB N), ?_, Nat.le_refl _, H1'.out, by rw [eightL_length]; omega, by unfold maxLen; omega, ?_, ?_⟩⟩, HB.out⟩
      · rw [eightL_length]; rfl
      · simp [b8R, eightL_length]
      · unfold b8R; rw [List.take_of_length_le (by simp [eightL_length])]
/-- What a mask is sealed from. -/
def nonceL (nonce : List UInt8) (n : Nat) : List UInt8 := nonce ++ [0, 0, UInt8.ofNat (n / 256), UInt8.ofNat (n % 256)]
theorem nonceL_length (nonce : List UInt8) (n : Nat) : (nonceL nonce n).length = nonce.length + 4 := by simp [nonceL]
/-- The n-th mask. -/
def maskL (key nonce : List UInt8) (n : Nat) : List UInt8 := blkL (sealN (bf key) (bf (nonceL nonce n)))
set_option maxHeartbeats 1000000 in
theorem mask12_any (A A' Ab : Option Addr) (key nonce : List UInt8) (m m' n nb c c' cb : Nat) (w : World) (hA : Sq w w.heap.size A c (bvs key)) (hA' : Sq w w.heap.size A' c' (bvs nonce)) (hkey : key.length = 16) (hnonce : nonce.length = 12) (hm : m = 16) (hm' : m' = 12) (hnb : nb = 256) (hBox : Ints w w.heap.size Ab cb boxN 256) (hn : n < 65536) :
    Calls Try.prog 26 #[.slice A m c, .slice A' m' c', .int .i64 (n : Int), .slice Ab nb cb] w fun e w' => ∃ v, e = .returned v ∧ OwnB w' w.heap.size v (maskL key nonce n) ∧ Below w.heap.size w w' := by
  subst hm; subst hm'; subst hnb
  have HA := hid hA; have HA' := hid hA'; have HBX := hid hBox; have HK := hid hkey; have HN := hid hnonce
  have HAL : Hid (Lie (w.alloc (.cells #[] 5)) w.heap.size A' (bvs nonce)) := hid (hA'.lie.alloc (Nat.le_refl _) _)
  obtain ⟨h, hh⟩ : ∃ h, h = n / 256 := ⟨_, rfl⟩
  obtain ⟨l, hl⟩ : ∃ l, l = n % 256 := ⟨_, rfl⟩
  have h1 : ((n : Int)).tdiv 256 = (h : Int) := by rw [Int.tdiv_eq_ediv_of_nonneg (by omega)]; omega
  have h2 : (n : Int) / 256 = (h : Int) := by omega
  have h3 : IntKind.i64.wrap (h : Int) = (h : Int) := IntWalk.i64_in _ (by omega)
  have h4 : (h : Int) % 256 = (h : Int) := by omega
  have h5 : IntKind.u8.wrap (h : Int) = (h : Int) := by rw [IntKind.wrap_u8]; exact h4
  have l1 : ((n : Int)).tmod 256 = (l : Int) := by rw [Int.tmod_eq_emod_of_nonneg (by omega)]; omega
  have l2 : (n : Int) % 256 = (l : Int) := by omega
  have l3 : IntKind.i64.wrap (l : Int) = (l : Int) := IntWalk.i64_in _ (by omega)
  have l4 : (l : Int) % 256 = (l : Int) := by omega
  have l5 : IntKind.u8.wrap (l : Int) = (l : Int) := by rw [IntKind.wrap_u8]; exact l4
  have HV : Hid ([Value.int .u8 0, .int .u8 0, .int .u8 (h : Int), .int .u8 (l : Int)] = bvs [0, 0, UInt8.ofNat (n / 256), UInt8.ofNat (n % 256)]) := hid (by
    unfold bvs
    simp only [List.map_cons, List.map_nil]
    rw [ofNat_b (by omega), ofNat_b (by omega), hh, hl]; rfl)
  clear hA hA' hBox hkey hnonce hh hl hn
  go_enter Try.func26, Try.ntmps26
  go_wp2_with (at_builtin; refine wpList_append_lie rfl _ _ 22 rfl w.heap.size 5 (.int .u8 0) 1 Try.underlying22 infoU8 rfl rfl (row_noneA _ _ (k := w.heap.size) rfl (Nat.le_refl _)) ((bvs_length nonce).trans HN.out) rfl HAL.out (bvs_one nonce) ?d1 ?d2 ?d3 ?_)
  case d1 => unfold maxLen; omega
  case d2 => omega
  case d3 => simp
  intro v2 w2 hown2 hg2 _
  have hO2 : w2.ownsRow w.heap.size 5 1 v2 12 (bvs nonce) := by simpa using hown2
  have hB2 : Below w.heap.size w w2 := ((Below.refl _ _).alloc (Nat.le_refl _) _).grown hg2 (by simp) (fun q h => by simp [Value.ownBlock] at h; omega)
  have HO2 := hid (World.ownsRow.alloc hO2 (.cells #[.int .u8 0, .int .u8 0, .int .u8 (h : Int), .int .u8 (l : Int)] 5))
  have HL2 := hid (Lie.newA w2 #[.int .u8 0, .int .u8 0, .int .u8 (h : Int), .int .u8 (l : Int)] 5)
  have HB2 := hid hB2
  have hsz := hB2.size
  clear hown2 hg2 hO2 hB2 HAL
  go_wp2_with (at_builtin; refine wpList_append_lie rfl _ _ 22 rfl w.heap.size 5 (.int .u8 0) 1 Try.underlying22 infoU8 rfl rfl HO2.out rfl rfl HL2.out (by intro u hu; simp at hu; rcases hu with rfl | rfl | rfl | rfl <;> rfl) ?e1 ?e2 ?e3 ?_)
  case e1 => unfold maxLen; first | (simp; done) | (simp; omega) | omega
  case e3 => first | (simp; omega) | omega
  intro v3 w3 hown3 hg3 _
  have hb3 : Below w.heap.size w w3 := (HB2.out.alloc hsz _).grown hg3 (by simp; omega) (fun q h => own_lt HO2.out q h)
  have hO3 : w3.ownsRow w.heap.size 5 1 v3 16 (bvs (nonceL nonce n)) := by
    unfold nonceL
    rw [bvs_append, ← HV.out]
    exact hown3
  obtain ⟨A3, c3, rfl, hS3⟩ := own_sl hO3
  have HB3 := hid hb3
  have KD : Hid (Calls Try.prog 22 #[.slice A (16 : Nat) c, .slice A3 (16 : Nat) c3, .slice Ab (256 : Nat) cb] w3 fun e w' => ∃ v, e = .returned v ∧ OwnB w' w3.heap.size v (maskL key nonce n) ∧ Below w3.heap.size w3 w') :=
    hid (Block11_any A A3 Ab key (nonceL nonce n) 16 16 256 c c3 cb w3 ((HA.out.below hb3).more hb3.size) hS3.sq HK.out (by rw [nonceL_length, HN.out]) rfl rfl rfl ((HBX.out.below hb3).more hb3.size))
  clear hown3 hg3 hb3 hO3 hS3 HO2 HB2 HL2 hsz
  go_wp2_with fail
  refine KD.out.mono ?_
  rintro e w4 ⟨v4, rfl, ho4, hb4⟩
  have HO4 : Hid (OwnB w4 w.heap.size v4 (maskL key nonce n)) := hid (own_base ho4 HB3.out.size)
  have HB4 : Hid (Below w.heap.size w w4) := hid (HB3.out.trans (hb4.mono HB3.out.size))
  clear ho4 hb4
  go_wp2
  go_ret
  exact ⟨_, rfl, HO4.out, HB4.out⟩
end Go.Proofs.Ytojlmlmjmlbjmaa
end
section
namespace Go.Proofs.Ytojlmlmjmlbjmaa
open Go.RowKit
set_option linter.unusedVariables false
set_option linter.unusedSimpArgs false
/-- The mask's byte at a place of the text. -/
def mskB (key nonce : List UInt8) (i : Nat) : Nat := bf (maskL key nonce (i / 16 + 2)) (i % 16)
/-- The first k bytes of a text held against masks. -/
def mskN (key nonce text : List UInt8) (k : Nat) : List UInt8 := (List.range k).map fun i => UInt8.ofNat (bf text i ^^^ mskB key nonce i)
def maskedL (key nonce text : List UInt8) : List UInt8 := mskN key nonce text text.length
theorem mskN_length (key nonce text : List UInt8) (k : Nat) : (mskN key nonce text k).length = k := by simp [mskN]
theorem mskN_succ (key nonce text : List UInt8) (k : Nat) : mskN key nonce text (k + 1) = mskN key nonce text k ++ [UInt8.ofNat (bf text k ^^^ mskB key nonce k)] := by unfold mskN; rw [List.range_succ, List.map_append]; rfl
theorem maskL_length (key nonce : List UInt8) (n : Nat) : (maskL key nonce n).length = 16 := blkL_length _
set_option maxHeartbeats 2000000 in
theorem Masked12_any (A A' A2 Ab : Option Addr) (key nonce text : List UInt8) (m m' n nb c c' c2 cb : Nat) (w : World) (hA : Sq w w.heap.size A c (bvs key)) (hA' : Sq w w.heap.size A' c' (bvs nonce)) (hA2 : Lie w w.heap.size A2 (bvs text)) (hkey : key.length = 16) (hnonce : nonce.length = 12) (hn : text.length = n) (hm : m = 16) (hm' : m' = 12) (hnb : nb = 256) (hBox : Ints w w.heap.size Ab cb boxN 256) (hn2 : n ≤ 10000) :
    Calls Try.prog 14 #[.slice A m c, .slice A' m' c', .slice A2 n c2, .slice Ab nb cb] w fun e w' => ∃ v, e = .returned v ∧ OwnB w' w.heap.size v (maskedL key nonce text) ∧ Below w.heap.size w w' := by
  subst hm; subst hm'; subst hnb
  have HA := hid hA; have HA' := hid hA'; have HT := hid hA2; have HBX := hid hBox; have HK := hid hkey; have HN := hid hnonce; have HL := hid hn
  clear hA hA' hA2 hBox hkey hnonce hn
  go_enter Try.func14, Try.ntmps14
  go_wp2
  go_loopg [9, 10, 11] n (fun g v mv ii wr => ∃ k : Nat, k + g = n ∧ ii = .int .i64 (k : Int) ∧ OwnB wr w.heap.size v (mskN key nonce text k) ∧ (k % 16 ≠ 0 → ∃ Am cm, mv = .slice Am 16 cm ∧ OwnB wr w.heap.size mv (maskL key nonce (k / 16 + 2)) ∧ mv.ownBlock ≠ v.ownBlock) ∧ Below w.heap.size w wr)
  case atStart => exact ⟨0, by omega, rfl, World.ownsRow_nil _ _ _ _, fun h => absurd rfl h, Below.refl _ _⟩
  case round =>
    obtain ⟨k, hk, rfl, ho, hmk, hb⟩ := hrel
    have HKK := hid hk; have HO := hid ho; have HB := hid hb; have HM := hid hmk
    have hkn : k ≤ n := by omega
    clear hk ho hb hmk
    by_cases hlt : k < n
    · have hx : (k : Int) < (n : Int) := by omega
      have hk0 : (0 : Int) ≤ (k : Int) := by omega
      have hkt : k < text.length := by rw [HL.out]; exact hlt
      obtain ⟨q, hq⟩ : ∃ q, q = k / 16 := ⟨_, rfl⟩
      obtain ⟨r, hr⟩ : ∃ r, r = k % 16 := ⟨_, rfl⟩
      have hr1 : ((k : Int)).tmod 16 = (r : Int) := by rw [Int.tmod_eq_emod_of_nonneg (by omega)]; omega
      have hr2 : (k : Int) % 16 = (r : Int) := by omega
      have hrw : IntKind.i64.wrap (r : Int) = (r : Int) := IntWalk.i64_in _ (by omega)
      have hq1 : ((k : Int)).tdiv 16 = (q : Int) := by rw [Int.tdiv_eq_ediv_of_nonneg (by omega)]; omega
      have hq2 : (k : Int) / 16 = (q : Int) := by omega
      have hqw : IntKind.i64.wrap (q : Int) = (q : Int) := IntWalk.i64_in _ (by omega)
      obtain ⟨p, hp⟩ : ∃ p, p = q + 2 := ⟨_, rfl⟩
      have hpw : IntKind.i64.wrap ((q : Int) + 2) = (p : Int) := (IntWalk.i64_in _ (by omega)).trans (by omega)
      have hr16 : (r : Int) < 16 := by omega
      have hr0 : (0 : Int) ≤ (r : Int) := by omega
      have hwi : IntKind.i64.wrap ((k : Int) + 1) = ((k + 1 : Nat) : Int) := (IntWalk.i64_in _ (by omega)).trans (by omega)
      have hlen : (mskN key nonce text k).length = k := mskN_length _ _ _ _
      have HR := hid hr; have HP := hid hp; have HQ := hid hq
      by_cases h0 : r = 0
      · have h0i : ((r : Int) == 0) = true := by rw [h0]; rfl
        have h0j : (r : Int) = 0 := by omega
        subst h0
        have KM := hid (mask12_any A A' Ab key nonce 16 12 p 256 c c' cb wr ((HA.out.below HB.out).more HB.out.size) ((HA'.out.below HB.out).more HB.out.size) HK.out HN.out rfl rfl rfl ((HBX.out.below HB.out).more HB.out.size) (by omega))
        clear hr hp hq hr1 hr2 hrw
        have hr1 : ((k : Int)).tmod 16 = 0 := by rw [Int.tmod_eq_emod_of_nonneg (by omega)]; have := HR.out; omega
        have hr2 : (k : Int) % 16 = 0 := by have := HR.out; omega
        go_wp2_with fail
        refine KM.out.mono ?_
        rintro e w2 ⟨mv, rfl, ho2, hb2⟩
        obtain ⟨Am, cm, rfl, hSm⟩ := own_sl ho2
        rw [maskL_length]
        have HB2 : Hid (Below w.heap.size w w2) := hid (HB.out.trans (hb2.mono HB.out.size))
        have HO2 : Hid (OwnB w2 w.heap.size u9 (mskN key nonce text k)) := hid (World.ownsRow.kept HO.out (row := none) ⟨hb2.os, hb2.tape, hb2.output, hb2.size, fun q hq _ => hb2.block q hq⟩ (by cases hv : u9.ownBlock <;> simp))
        have HMO : Hid (OwnB w2 w.heap.size (.slice Am 16 cm) (maskL key nonce p)) := hid (by have h := own_base ho2 HB.out.size; rwa [maskL_length] at h)
        have hAm : ∃ g0, Am = some ⟨g0, 0, none⟩ ∧ wr.heap.size ≤ g0 := by
          have h := ho2
          unfold OwnB World.ownsRow at h
          rcases h.2 with ⟨h1, h2⟩ | ⟨g, cap, cur, h1, h2, _⟩
          · rw [maskL_length] at h2; omega
          · simp only [Value.slice.injEq] at h1; exact ⟨g, h1.1, h2⟩
        obtain ⟨g0, rfl, hg0⟩ := hAm
        have HNE : Hid ((Value.slice (some ⟨g0, 0, none⟩) 16 cm).ownBlock ≠ u9.ownBlock) := hid (fun e => by
          have h1 := (HO.out.lt g0 e.symm).2
          omega)
        have HS : Hid (Lie w2 w2.heap.size (some ⟨g0, 0, none⟩) (bvs (maskL key nonce p))) := hid hSm.lie
        have hpe : p = k / 16 + 2 := by rw [HP.out, HQ.out]
        rw [hpe] at HS HMO
        clear ho2 hb2 hSm KM HB HO HM hpe hg0
        obtain ⟨b1, o1, rfl, hb1, hc1⟩ := (HT.out.below HB2.out).byte (k := k) (by rw [HL.out]; exact hlt)
        have hyb1 := bf_at text k (by rw [HL.out]; exact hlt)
        obtain ⟨b2, o2, hA2e, hb2, hc2⟩ := HS.out.byte (k := 0) (by rw [maskL_length]; omega)
        simp only [Option.some.injEq, Addr.mk.injEq] at hA2e
        obtain ⟨h2a, h2b, _⟩ := hA2e
        rw [← h2a, ← h2b] at hc2
        clear h2a h2b hb2
        have hyb2 := bf_at (maskL key nonce (k / 16 + 2)) 0 (by rw [maskL_length]; omega)
        obtain ⟨x, hxx⟩ : ∃ x, x = bf text k := ⟨_, rfl⟩
        obtain ⟨y, hyy⟩ : ∃ x, x = bf (maskL key nonce (k / 16 + 2)) 0 := ⟨_, rfl⟩
        rw [← hyb1, ← hxx] at hc1
        rw [← hyb2, ← hyy] at hc2
        rw [Nat.add_zero] at hc2
        have hxl : x < 256 := by rw [hxx]; exact bf_lt _ _
        have hyl : y < 256 := by rw [hyy]; exact bf_lt _ _
        have hxor := u8x_nat x y hxl hyl
        obtain ⟨z, hz⟩ : ∃ z, z = x ^^^ y := ⟨_, rfl⟩
        rw [← hz] at hxor
        have hzl : z < 256 := by rw [hz]; exact xor_b hxl hyl
        have HST : Hid (mskN key nonce text (k + 1) = mskN key nonce text k ++ [UInt8.ofNat z]) := hid (by rw [mskN_succ, mskB, ← HR.out, ← hyy, ← hxx, ← hz])
        have HZL := hid hzl
        clear hyb1 hyb2 hxx hyy hxl hyl hz hzl hb1
        go_wp2
        refine wp_region_first_tail u9 11 (by kernel_rfl) rfl (by kernel_rfl) (fun _ _ _ h => h) (Or.inl ⟨by rfl, fun _ => rfl⟩) ?_
        simp only [List.drop_succ_cons, List.drop_zero, List.take_succ_cons, List.take_zero]
        go_simp
        repeat (quiet_step (fail))
        refine wpQuiet_nil ?_
        intro ne
        obtain ⟨we, hwe⟩ : ∃ we : World, we = w2.drewN ne := ⟨_, rfl⟩
        have hBE : Below w.heap.size w we := by rw [hwe]; exact ⟨HB2.out.os, HB2.out.tape, HB2.out.output, HB2.out.size, HB2.out.block⟩
        have hOE : OwnB we w.heap.size u9 (mskN key nonce text k) := by rw [hwe]; exact HO2.out
        have hME : OwnB we w.heap.size (.slice (some ⟨g0, 0, none⟩) 16 cm) (maskL key nonce (k / 16 + 2)) := by rw [hwe]; exact HMO.out
        rw [← hwe]
        have HO1 := hid (World.ownsRow.alloc hOE (.cells #[.int .u8 (z : Int)] 5))
        have HM1 := hid (World.ownsRow.alloc hME (.cells #[.int .u8 (z : Int)] 5))
        have HME := hid hME
        have HBE := hid hBE
        have hsz := hBE.size
        clear hwe hBE hOE hME HO2 HMO HB2 HS
        go_wp2_with (at_builtin; refine wpList_append_lie rfl _ _ 22 rfl w.heap.size 5 (.int .u8 0) 1 Try.underlying22 infoU8 rfl rfl HO1.out rfl rfl (Lie.new1 _ _ _) (by intro u hu; simp at hu; subst hu; rfl) ?e1 ?e2 ?e3 ?_)
        case e1 => rw [hlen]; first | (rw [List.length_singleton]; unfold maxLen; omega) | (unfold maxLen; omega)
        case e2 => rw [hlen]; first | (rw [List.length_singleton]; omega) | omega
        case e3 => first | (simp; omega) | omega
        intro v3 w3 hown3 hg3 hat3
        have hb3 : Below w.heap.size w w3 := (HBE.out.alloc hsz _).grown hg3 (by simp; omega) (fun q h => own_lt HO1.out q h)
        have HO3 : Hid (OwnB w3 w.heap.size v3 (mskN key nonce text (k + 1))) := hid (by
          rw [HST.out]
          exact own_snoc hown3 (by rw [hlen]) (by rw [ofNat_b HZL.out]))
        have HM3 : Hid ((k + 1) % 16 ≠ 0 → ∃ Am cm', (.slice (some ⟨g0, 0, none⟩) 16 cm : Value) = .slice Am 16 cm' ∧ OwnB w3 w.heap.size (.slice (some ⟨g0, 0, none⟩) 16 cm) (maskL key nonce ((k + 1) / 16 + 2)) ∧ (.slice (some ⟨g0, 0, none⟩) 16 cm : Value).ownBlock ≠ v3.ownBlock) := hid (fun hne => by
          refine ⟨_, _, rfl, ?_, ?_⟩
          · rw [show (k + 1) / 16 = k / 16 by omega]
            exact World.ownsRow.kept HM1.out hg3 (.inr HNE.out)
          · intro e
            rcases hat3 with h | h
            · exact HNE.out (e.trans h)
            · have h2 := (HME.out.lt g0 rfl).2
              rw [h] at e
              simp [Value.ownBlock] at e
              omega)
        have HB3 := hid hb3
        clear hown3 hg3 hb3 HO1 HM1 HME HBE hsz hlen hat3
        go_wp2
        have hk := HKK.out
        go_roundg (n - k - 1)
        case measure => omega
        case rel => exact ⟨k + 1, by omega, rfl, HO3.out, HM3.out, HB3.out⟩
      · have h0i : ((r : Int) == 0) = false := by rw [beq_eq_false_iff_ne]; omega
        have h0j : ¬ (r : Int) = 0 := by omega
        obtain ⟨Am, cm, rfl, hmo, hne⟩ := HM.out (by rw [← hr]; exact h0)
        obtain ⟨w2, hw2⟩ : ∃ w2, w2 = wr := ⟨_, rfl⟩
        rw [← hw2] at HO HB hmo ⊢
        have HO2 := HO; have HB2 := HB
        have HMO := hid hmo; have HNE := hid hne
        have HS : Hid (Lie w2 w2.heap.size Am (bvs (maskL key nonce (k / 16 + 2)))) := hid (by
          obtain ⟨A9, c9, hv9, hS9⟩ := own_sl hmo
          simp only [Value.slice.injEq] at hv9
          obtain ⟨rfl, _, _⟩ := hv9
          exact hS9.lie)
        clear hr hp hq hw2 hmo hne HO HB HM
        obtain ⟨b1, o1, rfl, hb1, hc1⟩ := (HT.out.below HB2.out).byte (k := k) (by rw [HL.out]; exact hlt)
        have hyb1 := bf_at text k (by rw [HL.out]; exact hlt)
        obtain ⟨b2, o2, rfl, hb2, hc2⟩ := HS.out.byte (k := r) (by rw [maskL_length]; omega)
        have hyb2 := bf_at (maskL key nonce (k / 16 + 2)) r (by rw [maskL_length]; omega)
        obtain ⟨x, hxx⟩ : ∃ x, x = bf text k := ⟨_, rfl⟩
        obtain ⟨y, hyy⟩ : ∃ x, x = bf (maskL key nonce (k / 16 + 2)) r := ⟨_, rfl⟩
        rw [← hyb1, ← hxx] at hc1
        rw [← hyb2, ← hyy] at hc2
        have hxl : x < 256 := by rw [hxx]; exact bf_lt _ _
        have hyl : y < 256 := by rw [hyy]; exact bf_lt _ _
        have hxor := u8x_nat x y hxl hyl
        obtain ⟨z, hz⟩ : ∃ z, z = x ^^^ y := ⟨_, rfl⟩
        rw [← hz] at hxor
        have hzl : z < 256 := by rw [hz]; exact xor_b hxl hyl
        have HST : Hid (mskN key nonce text (k + 1) = mskN key nonce text k ++ [UInt8.ofNat z]) := hid (by rw [mskN_succ, mskB, ← HR.out, ← hyy, ← hxx, ← hz])
        have HZL := hid hzl
        clear hyb1 hyb2 hxx hyy hxl hyl hz hzl hb1 hb2
        go_wp2
        refine wp_region_first_tail u9 11 (by kernel_rfl) rfl (by kernel_rfl) (fun _ _ _ h => h) (Or.inl ⟨by rfl, fun _ => rfl⟩) ?_
        simp only [List.drop_succ_cons, List.drop_zero, List.take_succ_cons, List.take_zero]
        go_simp
        repeat (quiet_step (fail))
        refine wpQuiet_nil ?_
        intro ne
        obtain ⟨we, hwe⟩ : ∃ we : World, we = w2.drewN ne := ⟨_, rfl⟩
        have hBE : Below w.heap.size w we := by rw [hwe]; exact ⟨HB2.out.os, HB2.out.tape, HB2.out.output, HB2.out.size, HB2.out.block⟩
        have hOE : OwnB we w.heap.size u9 (mskN key nonce text k) := by rw [hwe]; exact HO2.out
        have hME : OwnB we w.heap.size (.slice (some ⟨b2, o2, none⟩) 16 cm) (maskL key nonce (k / 16 + 2)) := by rw [hwe]; exact HMO.out
        rw [← hwe]
        have HO1 := hid (World.ownsRow.alloc hOE (.cells #[.int .u8 (z : Int)] 5))
        have HM1 := hid (World.ownsRow.alloc hME (.cells #[.int .u8 (z : Int)] 5))
        have HME := hid hME
        have HBE := hid hBE
        have hsz := hBE.size
        clear hwe hBE hOE hME HO2 HMO HB2 HS
        go_wp2_with (at_builtin; refine wpList_append_lie rfl _ _ 22 rfl w.heap.size 5 (.int .u8 0) 1 Try.underlying22 infoU8 rfl rfl HO1.out rfl rfl (Lie.new1 _ _ _) (by intro u hu; simp at hu; subst hu; rfl) ?e1 ?e2 ?e3 ?_)
        case e1 => rw [hlen]; first | (rw [List.length_singleton]; unfold maxLen; omega) | (unfold maxLen; omega)
        case e2 => rw [hlen]; first | (rw [List.length_singleton]; omega) | omega
        case e3 => first | (simp; omega) | omega
        intro v3 w3 hown3 hg3 hat3
        have hb3 : Below w.heap.size w w3 := (HBE.out.alloc hsz _).grown hg3 (by simp; omega) (fun q h => own_lt HO1.out q h)
        have HO3 : Hid (OwnB w3 w.heap.size v3 (mskN key nonce text (k + 1))) := hid (by
          rw [HST.out]
          exact own_snoc hown3 (by rw [hlen]) (by rw [ofNat_b HZL.out]))
        have HM3 : Hid ((k + 1) % 16 ≠ 0 → ∃ Am cm', (.slice (some ⟨b2, o2, none⟩) 16 cm : Value) = .slice Am 16 cm' ∧ OwnB w3 w.heap.size (.slice (some ⟨b2, o2, none⟩) 16 cm) (maskL key nonce ((k + 1) / 16 + 2)) ∧ (.slice (some ⟨b2, o2, none⟩) 16 cm : Value).ownBlock ≠ v3.ownBlock) := hid (fun hne => by
          refine ⟨_, _, rfl, ?_, ?_⟩
          · rw [show (k + 1) / 16 = k / 16 by omega]
            exact World.ownsRow.kept HM1.out hg3 (.inr HNE.out)
          · intro e
            rcases hat3 with h | h
            · exact HNE.out (e.trans h)
            · have h2 := (HME.out.lt b2 rfl).2
              rw [h] at e
              simp [Value.ownBlock] at e
              omega)
        have HB3 := hid hb3
        clear hown3 hg3 hb3 HO1 HM1 HME HBE hsz hlen hat3
        go_wp2
        have hk := HKK.out
        go_roundg (n - k - 1)
        case measure => omega
        case rel => exact ⟨k + 1, by omega, rfl, HO3.out, HM3.out, HB3.out⟩
    · have hke : k = n := by omega
      have hx : ¬ (k : Int) < (n : Int) := by omega
      have HOe : Hid (OwnB wr w.heap.size u9 (maskedL key nonce text)) := hid (by unfold maskedL; rw [HL.out, ← hke]; exact HO.out)
      clear hke
      go_wp2
      go_ret
      exact ⟨_, rfl, HOe.out, HB.out⟩
end Go.Proofs.Ytojlmlmjmlbjmaa
end
section
namespace Go.Proofs.Ytojlmlmjmlbjmaa
open Go.RowKit
set_option linter.unusedVariables false
set_option linter.unusedSimpArgs false
def hashH (key : List UInt8) : List UInt8 := blkL (sealN (bf key) (bf (blkL fun _ => 0)))
theorem hashH_length (key : List UInt8) : (hashH key).length = 16 := blkL_length _
/-- What is held by the tag: more, the sealed text, their lengths. -/
def heldL (more sealed : List UInt8) : List UInt8 := ((fillL more ++ fillL sealed) ++ eightL (lenB (8 * more.length))) ++ eightL (lenB (8 * sealed.length))
def heldK (more sealed : List UInt8) : Nat := (more.length + 15) / 16 + (sealed.length + 15) / 16 + 1
theorem heldL_length (more sealed : List UInt8) : (heldL more sealed).length = 16 * heldK more sealed := by
  unfold heldL heldK
  rw [List.length_append, List.length_append, List.length_append, fillL_length, fillL_length, eightL_length, eightL_length]; omega
/-- After k blocks. -/
def tagY (h all : List UInt8) : Nat → List UInt8
  | 0 => blkL fun _ => 0
  | k + 1 => timesL (xorL (tagY h all k) ((all.drop (16 * k)).take 16)) h
theorem tagY_length (h all : List UInt8) : ∀ k, (tagY h all k).length = 16
  | 0 => blkL_length _
  | k + 1 => timesL_length _ _
def tagL (key nonce sealed more : List UInt8) : List UInt8 :=
  xorL (tagY (hashH key) (heldL more sealed) (heldK more sealed)) (maskL key nonce 1)
theorem tagL_length (key nonce sealed more : List UInt8) : (tagL key nonce sealed more).length = 16 := by
  unfold tagL; rw [xorL_length _ _ (by rw [tagY_length, maskL_length]; omega), tagY_length]
theorem own_n {w : World} {B n : Nat} {v : Value} {xs : List UInt8} (h : OwnB w B v xs) (hn : xs.length = n) : ∃ A c, v = .slice A n c ∧ Sl w w.heap.size A c (bvs xs) := by
  subst hn; exact own_sl h
theorem grown12 {w a : World} (h : Below w.heap.size w a) : w.grownBy a none := ⟨h.os, h.tape, h.output, h.size, fun k hk _ => h.block k hk⟩
theorem lie_on {w w' : World} {A : Option Addr} {cs : List Value} (h : Lie w w.heap.size A cs) (hb : Below w.heap.size w w') : Lie w' w'.heap.size A cs := (h.below hb).more hb.size
set_option maxRecDepth 100000 in
set_option maxHeartbeats 4000000 in
theorem Tag12_any (A A' A2 A3 Ab : Option Addr) (key nonce sealed more : List UInt8) (m m' n2 n3 nb c c' c2 c3 cb : Nat) (w : World) (hA : Sq w w.heap.size A c (bvs key)) (hA' : Sq w w.heap.size A' c' (bvs nonce)) (h2 : Lie w w.heap.size A2 (bvs sealed)) (h3 : Lie w w.heap.size A3 (bvs more)) (hkey : key.length = 16) (hnonce : nonce.length = 12) (hm : m = 16) (hm' : m' = 12) (hnb : nb = 256) (hBox : Ints w w.heap.size Ab cb boxN 256) (hn2 : sealed.length = n2) (hn3 : more.length = n3) (hs : n2 ≤ 1000) (hmo : n3 ≤ 1000) :
    Calls Try.prog 13 #[.slice A m c, .slice A' m' c', .slice A2 n2 c2, .slice A3 n3 c3, .slice Ab nb cb] w fun e w' => ∃ v, e = .returned v ∧ OwnB w' w.heap.size v (tagL key nonce sealed more) ∧ Below w.heap.size w w' := by
  subst hm; subst hm'; subst hnb
  have hb1 : Below w.heap.size w (w.alloc (.cells (bR fun _ => 0) 5)) := (Below.refl _ _).alloc (Nat.le_refl _) _
  have hz1 : Sq (w.alloc (.cells (bR fun _ => 0) 5)) (w.alloc (.cells (bR fun _ => 0) 5)).heap.size (some ⟨w.heap.size, 0, none⟩) 16 (bvs (blkL fun _ => 0)) :=
    Lie.sq ((Lie.newA w (bR fun _ => 0) 5).more (by simp)) (by rw [bvs_length, blkL_length]; exact Nat.le_refl _) (by omega)
  have KB := hid (Block11_any A (some ⟨w.heap.size, 0, none⟩) Ab key (blkL fun _ => 0) 16 16 256 c 16 cb _ ((hA.below hb1).more hb1.size) hz1 hkey (blkL_length _) rfl rfl rfl ((hBox.below hb1).more hb1.size))
  have KF : Hid (∀ W, Lie W W.heap.size A3 (bvs more) → Calls Try.prog 23 #[.slice A3 n3 c3] W fun e w' => ∃ v, e = .returned v ∧ OwnB w' W.heap.size v (fillL more) ∧ Below W.heap.size W w') := hid fun W h => filled12_any A3 more n3 c3 W h hn3 (by omega)
  have KG : Hid (∀ W, Lie W W.heap.size A2 (bvs sealed) → Calls Try.prog 23 #[.slice A2 n2 c2] W fun e w' => ∃ v, e = .returned v ∧ OwnB w' W.heap.size v (fillL sealed) ∧ Below W.heap.size W w') := hid fun W h => filled12_any A2 sealed n2 c2 W h hn2 (by omega)
  have KI : Hid (∀ W, Calls Try.prog 24 #[.int .i64 (n3 : Int)] W fun e w' => ∃ v, e = .returned v ∧ OwnB w' W.heap.size v (eightL (lenB (8 * n3))) ∧ Below W.heap.size W w') := hid fun W => bits12_any n3 W (by omega)
  have KJ : Hid (∀ W, Calls Try.prog 24 #[.int .i64 (n2 : Int)] W fun e w' => ∃ v, e = .returned v ∧ OwnB w' W.heap.size v (eightL (lenB (8 * n2))) ∧ Below W.heap.size W w') := hid fun W => bits12_any n2 W (by omega)
  obtain ⟨f3, hf3⟩ : ∃ f, f = fillL more := ⟨_, rfl⟩
  obtain ⟨f2, hf2⟩ : ∃ f, f = fillL sealed := ⟨_, rfl⟩
  obtain ⟨e3, he3⟩ : ∃ f, f = eightL (lenB (8 * n3)) := ⟨_, rfl⟩
  obtain ⟨e2, he2⟩ : ∃ f, f = eightL (lenB (8 * n2)) := ⟨_, rfl⟩
  have HALL : Hid (heldL more sealed = ((f3 ++ f2) ++ e3) ++ e2) := hid (by unfold heldL; rw [hn2, hn3, hf3, hf2, he3, he2])
  have HLEN : Hid (f3.length ≤ 1016 ∧ f2.length ≤ 1016 ∧ e3.length = 8 ∧ e2.length = 8 ∧ f3.length + f2.length + 16 = 16 * heldK more sealed) := hid (by
    refine ⟨by rw [hf3, fillL_length]; omega, by rw [hf2, fillL_length]; omega, by rw [he3, eightL_length], by rw [he2, eightL_length], ?_⟩
    rw [hf3, hf2, fillL_length, fillL_length]; unfold heldK; omega)
  rw [← hf3] at KF; rw [← hf2] at KG; rw [← he3] at KI; rw [← he2] at KJ
  have HA := hid hA; have HA' := hid hA'; have H2 := hid h2; have H3 := hid h3; have HBX := hid hBox; have HK := hid hkey; have HN := hid hnonce; have HB1 := hid hb1
  have hmk := mk16
  clear hA hA' h2 h3 hBox hkey hnonce hb1 hz1 hf3 hf2 he3 he2 hn2 hn3 hs hmo
  go_enter Try.func13, Try.ntmps13
  go_wp2_with fail
  refine KB.out.mono ?_
  rintro e w2 ⟨v2, rfl, ho2, hb2⟩
  obtain ⟨Ah, ch, rfl, hSh⟩ := own_n ho2 (blkL_length _)
  have hb2' : Below w.heap.size w w2 := HB1.out.trans (hb2.mono HB1.out.size)
  have HH : Hid (Lie w2 w2.heap.size Ah (bvs (hashH key))) := hid hSh.lie
  have HB2 := hid hb2'
  clear ho2 hb2 hb2' hSh KB HB1
  go_wp2_with fail
  refine (KF.out _ (lie_on H3.out HB2.out)).mono ?_
  rintro e w3 ⟨v3, rfl, ho3, hb3⟩
  obtain ⟨A4, c4, rfl, -⟩ := own_sl ho3
  have HO3 : Hid (w3.ownsRow w2.heap.size 5 1 (.slice A4 f3.length c4) f3.length (bvs f3)) := hid ho3
  have HB3 := hid hb3
  clear ho3 hb3 KF
  go_wp2_with fail
  refine (KG.out _ (lie_on H2.out (HB2.out.trans (HB3.out.mono HB2.out.size)))).mono ?_
  rintro e w4 ⟨v4, rfl, ho4, hb4⟩
  obtain ⟨A5, c5, rfl, hS5⟩ := own_sl ho4
  have HO4 : Hid (w4.ownsRow w2.heap.size 5 1 (.slice A4 f3.length c4) f3.length (bvs f3)) := hid (World.ownsRow.kept HO3.out (grown12 hb4) (Classical.em _))
  have HL4 := hid hS5.lie
  have HB4 := hid (HB3.out.trans (hb4.mono HB3.out.size))
  clear ho4 hb4 hS5 KG HO3 HB3
  go_wp2_with (at_builtin; refine wpList_append_lie rfl _ _ 22 rfl w2.heap.size 5 (.int .u8 0) 1 Try.underlying22 infoU8 rfl rfl HO4.out (bvs_length f2) rfl HL4.out (bvs_one _) ?a1 ?a2 ?a3 ?_)
  case a1 => have := HLEN.out; unfold maxLen; omega
  case a2 => have := HLEN.out; omega
  case a3 => exact HB4.out.size
  intro v5 w5 ho5 hg5 _
  have HO5 : Hid (OwnB w5 w2.heap.size v5 (f3 ++ f2)) := hid (by
    unfold OwnB; rw [List.length_append]; simpa [bvs] using ho5)
  have HB5 : Hid (Below w2.heap.size w2 w5) := hid (HB4.out.grown hg5 HB4.out.size (own_lt HO4.out))
  clear ho5 hg5 HO4 HL4 HB4
  go_wp2_with fail
  refine (KI.out _).mono ?_
  rintro e w6 ⟨v6, rfl, ho6, hb6⟩
  obtain ⟨A6, c6, rfl, hS6⟩ := own_sl ho6
  have HO6 : Hid (OwnB w6 w2.heap.size v5 (f3 ++ f2)) := hid (World.ownsRow.kept HO5.out (grown12 hb6) (Classical.em _))
  have HL6 := hid hS6.lie
  have HB6 := hid (HB5.out.trans (hb6.mono HB5.out.size))
  clear ho6 hb6 hS6 KI HO5 HB5
  go_wp2_with (at_builtin; refine wpList_append_lie rfl _ _ 22 rfl w2.heap.size 5 (.int .u8 0) 1 Try.underlying22 infoU8 rfl rfl HO6.out (bvs_length e3) rfl HL6.out (bvs_one _) ?a1 ?a2 ?a3 ?_)
  case a1 => have := HLEN.out; rw [List.length_append]; unfold maxLen; omega
  case a2 => have := HLEN.out; rw [List.length_append]; omega
  case a3 => exact HB6.out.size
  intro v7 w7 ho7 hg7 _
  have HO7 : Hid (OwnB w7 w2.heap.size v7 ((f3 ++ f2) ++ e3)) := hid (by
    unfold OwnB; rw [bvs_append]; simp only [List.length_append]; exact ho7)
  have HB7 : Hid (Below w2.heap.size w2 w7) := hid (HB6.out.grown hg7 HB6.out.size (own_lt HO6.out))
  clear ho7 hg7 HO6 HL6 HB6
  go_wp2_with fail
  refine (KJ.out _).mono ?_
  rintro e w8 ⟨v8, rfl, ho8, hb8⟩
  obtain ⟨A8, c8, rfl, hS8⟩ := own_sl ho8
  have HO8 : Hid (OwnB w8 w2.heap.size v7 ((f3 ++ f2) ++ e3)) := hid (World.ownsRow.kept HO7.out (grown12 hb8) (Classical.em _))
  have HL8 := hid hS8.lie
  have HB8 := hid (HB7.out.trans (hb8.mono HB7.out.size))
  clear ho8 hb8 hS8 KJ HO7 HB7
  go_wp2_with (at_builtin; refine wpList_append_lie rfl _ _ 22 rfl w2.heap.size 5 (.int .u8 0) 1 Try.underlying22 infoU8 rfl rfl HO8.out (bvs_length e2) rfl HL8.out (bvs_one _) ?a1 ?a2 ?a3 ?_)
  case a1 => have := HLEN.out; rw [List.length_append, List.length_append]; unfold maxLen; omega
  case a2 => have := HLEN.out; rw [List.length_append, List.length_append]; omega
  case a3 => exact HB8.out.size
  intro v9 w9 ho9 hg9 _
  have hO9 : OwnB w9 w2.heap.size v9 (heldL more sealed) := by
    rw [HALL.out]
    unfold OwnB; rw [bvs_append]; simpa only [List.length_append, List.append_assoc, Nat.add_assoc] using ho9
  have HB9 : Hid (Below w2.heap.size w2 w9) := hid (HB8.out.grown hg9 HB8.out.size (own_lt HO8.out))
  obtain ⟨Aa, ca, rfl, hSa⟩ := own_sl hO9
  have hlenA : (heldL more sealed).length = 16 * heldK more sealed := heldL_length _ _
  have hKle : heldK more sealed ≤ 200 := by have := HLEN.out; omega
  obtain ⟨all, hall⟩ : ∃ l, l = heldL more sealed := ⟨_, rfl⟩
  obtain ⟨K, hKe⟩ : ∃ l, l = heldK more sealed := ⟨_, rfl⟩
  have hK0 : 0 < K := by rw [hKe]; unfold heldK; omega
  rw [← hall] at hSa hlenA
  rw [← hKe] at hlenA hKle
  have hform := hSa.sq.form (by rw [bvs_length, hlenA]; omega)
  obtain ⟨ga, oa, rfl, hga⟩ := hform
  have hcap := hSa.sq.cap
  rw [bvs_length] at hcap
  rw [← hall]
  obtain ⟨N, hN⟩ : ∃ n, n = all.length := ⟨_, rfl⟩
  rw [← hN] at hcap
  rw [← hN]
  have HLA := hid hSa.lie
  have HBL : Hid (Below w2.heap.size w2 (w9.alloc (.cells (bR fun _ => 0) 5))) := hid (HB9.out.alloc HB9.out.size _)
  have HLA' : Hid (Lie (w9.alloc (.cells (bR fun _ => 0) 5)) (w9.alloc (.cells (bR fun _ => 0) 5)).heap.size (some ⟨ga, oa, none⟩) (bvs all)) := hid ((HLA.out.alloc (Nat.le_refl _) _).more (by simp))
  have HLY : Hid (Lie (w9.alloc (.cells (bR fun _ => 0) 5)) (w9.alloc (.cells (bR fun _ => 0) 5)).heap.size (some ⟨w9.heap.size, 0, none⟩) (bvs (blkL fun _ => 0))) := hid ((Lie.newA w9 (bR fun _ => 0) 5).more (by simp))
  have HNK : Hid (N = 16 * K) := hid (hN.trans hlenA)
  have HNL : Hid (all.length = N) := hid hN.symm
  have HDEF : Hid (tagL key nonce sealed more = xorL (tagY (hashH key) all K) (maskL key nonce 1)) := hid (by rw [hall, hKe]; rfl)
  have HKL := hid hKle; have HCA := hid hcap
  clear ho9 hg9 hO9 HO8 HL8 HB8 hSa hlenA hKle hall hKe hK0 hga hcap hN HB9 HLA HALL HLEN
  go_wp2_with fail
  clear hmk
  have hsz9 : w2.heap.size ≤ (w9.alloc (.cells (bR fun _ => 0) 5)).heap.size := HBL.out.size
  generalize hwl : w9.alloc (.cells (bR fun _ => 0) 5) = wl at *
  generalize w9.heap.size = gy at *
  clear hwl
  have HH0 : Hid (Lie wl wl.heap.size Ah (bvs (hashH key))) := hid (lie_on HH.out HBL.out)
  have HBW : Hid (Below w.heap.size w wl) := hid (HB2.out.trans (HBL.out.mono HB2.out.size))
  have HAk := hid (((HA.out.below HBW.out).more HBW.out.size)); have HAn := hid (((HA'.out.below HBW.out).more HBW.out.size)); have HBX' := hid (((HBX.out.below HBW.out).more HBW.out.size))
  clear HA HA' HBX HH HB2 HBL H2 H3 hsz9
  go_loopg [13, 14] K (fun q yv av wr => ∃ k : Nat, k + q = K ∧ av = .int .i64 ((16 * k : Nat) : Int) ∧ (∃ Ay cy, yv = .slice Ay 16 cy ∧ Lie wr wr.heap.size Ay (bvs (tagY (hashH key) all k))) ∧ Below wl.heap.size wl wr)
  case atStart => exact ⟨0, by omega, rfl, ⟨_, _, rfl, HLY.out⟩, Below.refl _ _⟩
  case round =>
    clear HLY
    obtain ⟨k, hk, rfl, ⟨Ay, cy, rfl, hy⟩, hb⟩ := hrel
    have HKK := hid hk; have HY := hid hy; have HB := hid hb
    obtain ⟨a, ha⟩ : ∃ a, a = 16 * k := ⟨_, rfl⟩
    rw [← ha]
    have HAA := hid ha
    have hnk := HNK.out
    have hkl := HKL.out
    obtain ⟨hc1, hc2⟩ := HCA.out
    by_cases hlt : k < K
    · obtain ⟨b, hbe⟩ : ∃ b, b = a + 16 := ⟨_, rfl⟩
      have hx1 : (a : Int) < (N : Int) := by omega
      have hx2 : IntKind.i64.wrap ((a : Int) + 16) = (b : Int) := (IntWalk.i64_in _ (by omega)).trans (by omega)
      have hx3 : (a : Int) ≤ (b : Int) := by omega
      have hx4 : (b : Int) ≤ (N : Int) := by omega
      have hx5 : (b : Int) ≤ (ca : Int) := by omega
      have hx6 : (0 : Int) ≤ (a : Int) := by omega
      have hx7 : (N : Int) ≤ (ca : Int) := by omega
      have HBE := hid hbe; have HLT := hid hlt
      clear hk hy hb ha hnk hkl hc1 hc2 hbe hlt
      have hpl : ((all.drop a).take 16).length = b - a := by
        have h1 := HNL.out; have h2 := HBE.out; have h3 := HAA.out; have h4 := HLT.out; have h5 := HNK.out
        rw [List.length_take, List.length_drop]; omega
      have hla : Lie wr wr.heap.size (some ⟨ga, oa + a, none⟩) (bvs ((all.drop a).take 16)) := by
        have h := (((lie_on HLA'.out HB.out).drop a).take 16)
        simpa [bvs, List.map_take, List.map_drop] using h
      have HBA : Hid (16 ≤ b - a) := hid (by have h2 := HBE.out; omega)
      have KX := hid (xor12_any Ay (some ⟨ga, oa + a, none⟩) (tagY (hashH key) all k) ((all.drop a).take 16) 16 (b - a) cy (ca - a) wr HY.out hla (tagY_length _ _ _) hpl HBA.out (by omega))
      have HXL : Hid ((xorL (tagY (hashH key) all k) ((all.drop a).take 16)).length = 16) := hid (by
        have h := HBA.out
        rw [xorL_length _ _ (by rw [tagY_length, hpl]; exact h), tagY_length])
      have HST : Hid (tagY (hashH key) all (k + 1) = timesL (xorL (tagY (hashH key) all k) ((all.drop a).take 16)) (hashH key)) := hid (by rw [HAA.out]; rfl)
      clear hpl hla
      go_wp2_with fail
      refine KX.out.mono ?_
      rintro e wx ⟨vx, rfl, hox, hbx⟩
      obtain ⟨Ax, cx, rfl, hSx⟩ := own_n hox HXL.out
      have KT := hid (Times12_any Ax Ah (xorL (tagY (hashH key) all k) ((all.drop a).take 16)) (hashH key) 16 16 cx ch wx hSx.lie (lie_on HH0.out (HB.out.trans (hbx.mono HB.out.size))) HXL.out (hashH_length _) rfl rfl)
      have HBx := hid (HB.out.trans (hbx.mono HB.out.size))
      clear hox hbx hSx KX
      go_wp2_with fail
      refine KT.out.mono ?_
      rintro e wt ⟨vt, rfl, hot, hbt⟩
      rw [← HST.out] at hot
      obtain ⟨At, ct, rfl, hSt⟩ := own_n hot (tagY_length _ _ _)
      have HT := hid hSt.lie
      have HBt := hid (HBx.out.trans (hbt.mono HBx.out.size))
      clear hot hbt hSt KT
      go_wp2_with fail
      have hk := HKK.out
      have hlt := HLT.out
      go_roundg (K - k - 1)
      case measure => omega
      case rel => exact ⟨k + 1, by omega, by rw [HBE.out, HAA.out, Nat.mul_add], ⟨_, _, rfl, HT.out⟩, HBt.out⟩
    · have hke : k = K := by omega
      have hx1 : ¬ (a : Int) < (N : Int) := by omega
      subst hke
      have KM : Hid (Calls Try.prog 26 #[.slice A (16 : Nat) c, .slice A' (12 : Nat) c', .int .i64 1, .slice Ab (256 : Nat) cb] wr fun e w' => ∃ v, e = .returned v ∧ OwnB w' wr.heap.size v (maskL key nonce 1) ∧ Below wr.heap.size wr w') :=
        hid (mask12_any A A' Ab key nonce 16 12 1 256 c c' cb wr ((HAk.out.below HB.out).more HB.out.size) ((HAn.out.below HB.out).more HB.out.size) HK.out HN.out rfl rfl rfl ((HBX'.out.below HB.out).more HB.out.size) (by omega))
      clear hk hy hb ha hnk hkl hc1 hc2 hlt
      go_wp2_with fail
      refine KM.out.mono ?_
      rintro e wm ⟨vm, rfl, hom, hbm⟩
      obtain ⟨Am, cm, rfl, hSm⟩ := own_n hom (maskL_length _ _ _)
      have KX := hid (xor12_any Ay Am (tagY (hashH key) all k) (maskL key nonce 1) 16 16 cy cm wm (lie_on HY.out hbm) hSm.lie (tagY_length _ _ _) (maskL_length _ _ _) (Nat.le_refl _) (by omega))
      have HBm := hid (HB.out.trans (hbm.mono HB.out.size))
      clear hom hbm hSm KM
      go_wp2_with fail
      refine KX.out.mono ?_
      rintro e wx ⟨vx, rfl, hox, hbx⟩
      rw [← HDEF.out] at hox
      have hBall : Below w.heap.size w wx := HBW.out.trans ((HBm.out.trans (hbx.mono HBm.out.size)).mono HBW.out.size)
      have HOx := hid (own_base hox (Nat.le_trans HBW.out.size HBm.out.size)); have HBall := hid hBall
      clear hox hbx hBall KX
      go_wp2_with fail
      go_ret
      exact ⟨_, rfl, HOx.out, HBall.out⟩
end Go.Proofs.Ytojlmlmjmlbjmaa
end
