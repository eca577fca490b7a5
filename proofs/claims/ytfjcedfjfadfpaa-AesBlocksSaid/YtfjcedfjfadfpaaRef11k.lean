/-
  The document's layer 11, a block sealed: its rounds.
-/
import Derived.Test.YtfjcedfjfadfpaaRef11g
import Derived.Test.YtfjcedfjfadfpaaRef11h
import Derived.Test.YtfjcedfjfadfpaaRef11i
import Derived.Test.YtfjcedfjfadfpaaRef11j
namespace Go.Proofs.Ytfjcedfjfadfpaa
open Go.RowKit
set_option linter.unusedVariables false
set_option linter.unusedSimpArgs false

/-- The block behind m rounds; behind the last one it is sealed. -/
def rs (ky S : Nat → Nat) (m : Nat) : Nat → Nat := if m = 10 then sealN ky S else rd ky S m
set_option maxRecDepth 100000 in
set_option maxHeartbeats 4000000 in
theorem blk11_l2 {Q : Exit → Act → World → Prop} (A' Ab Aw : Option Addr) (c' cb cw g : Nat) (ky : Nat → Nat) (wb w : World) (S0 : Nat → Nat) (t0 t3 t4 t5 t6 t9 t11 t12 t13 t14 t15 t16 t17 t18 t19 t20 t21 t22 t23 t24 t25 t26 t27 t28 t29 t30 t31 t32 t33 t34 t35 t36 t37 t38 t39 t40 t41 t42 t43 t44 t45 t46 t47 t48 t49 t50 t51 t52 t53 t54 t55 t56 t57 t58 t59 t60 t61 t62 t63 t64 t65 t66 t67 t68 t69 t70 t71 t72 t73 t74 t75 t76 t77 t78 t79 t80 t81 t82 t83 t84 t85 t86 t87 t88 t89 t90 t91 t92 t93 t94 t95 t96 t97 t98 t99 t100 t101 t102 t103 t104 t105 t106 t107 t108 t109 t110 t111 t112 t113 t114 t115 t116 t117 t118 t119 t120 t121 t122 t123 t124 t125 t126 t127 t128 t129 t130 t131 t132 t133 t134 t135 t136 t137 t138 t139 t140 t141 t142 t143 t144 t145 t146 t147 t148 t149 t150 t151 t152 t153 t154 t155 t156 t157 t158 t159 t160 t161 t162 t163 t164 t165 t166 t167 t168 t169 t170 t171 : Value) (hS : ∀ i, S0 i < 256) (hBox : Ints wb wb.heap.size Ab cb boxN 256) (hW : ∀ j, j < 44 → RowAt wb Aw 44 cw ky j) (hky : ∀ i, ky i < 256) (hg : wb.heap.size ≤ g) (h0 : w.heap[g]? = some (.cells (bI (rd ky S0 0)) 3 (0, 0))) (hb : Below wb.heap.size wb w)
    (hexit : ∀ (w' : World) (u11 u12 u13 u14 u15 u16 u17 u46 u47 u48 u49 u50 u51 u52 u53 u54 u55 u56 u57 u58 u59 u60 u61 u62 u63 u64 u65 u66 u67 u68 u69 u70 u71 u72 u73 u74 u75 u76 u77 u78 u79 u80 u81 u82 u83 u84 u85 u86 u87 u88 u89 u90 u91 u92 u93 u94 u95 u96 u97 u98 u99 u100 u101 u102 u103 u104 u105 u106 u107 u108 u109 u110 u111 u112 u113 u114 u115 u116 u117 u118 u119 u120 u121 u122 u123 u124 u125 u126 u127 u128 u129 u130 u131 u132 u133 u134 u135 u136 u137 u138 u139 u140 u141 u142 u143 u144 u145 u146 u147 u148 u149 u150 u151 u152 u153 u154 u155 u156 u157 u158 : Value), w'.heap[g]? = some (.cells (bI (sealN ky S0)) 3 (0, 0)) → Below wb.heap.size wb w' → Q (.exit 2) ⟨(t0 :: (.slice A' 16 c') :: (.slice Ab 256 cb) :: t3 :: t4 :: t5 :: t6 :: (.slice Aw 44 cw) :: (.slice (some ⟨g, 0, none⟩) 16 16) :: t9 :: (.int .i64 11) :: u11 :: u12 :: u13 :: u14 :: u15 :: u16 :: u17 :: t18 :: t19 :: t20 :: t21 :: t22 :: t23 :: t24 :: t25 :: t26 :: t27 :: t28 :: t29 :: t30 :: t31 :: t32 :: t33 :: t34 :: t35 :: t36 :: t37 :: t38 :: t39 :: t40 :: t41 :: t42 :: t43 :: t44 :: t45 :: u46 :: u47 :: u48 :: u49 :: u50 :: u51 :: u52 :: u53 :: u54 :: u55 :: u56 :: u57 :: u58 :: u59 :: u60 :: u61 :: u62 :: u63 :: u64 :: u65 :: u66 :: u67 :: u68 :: u69 :: u70 :: u71 :: u72 :: u73 :: u74 :: u75 :: u76 :: u77 :: u78 :: u79 :: u80 :: u81 :: u82 :: u83 :: u84 :: u85 :: u86 :: u87 :: u88 :: u89 :: u90 :: u91 :: u92 :: u93 :: u94 :: u95 :: u96 :: u97 :: u98 :: u99 :: u100 :: u101 :: u102 :: u103 :: u104 :: u105 :: u106 :: u107 :: u108 :: u109 :: u110 :: u111 :: u112 :: u113 :: u114 :: u115 :: u116 :: u117 :: u118 :: u119 :: u120 :: u121 :: u122 :: u123 :: u124 :: u125 :: u126 :: u127 :: u128 :: u129 :: u130 :: u131 :: u132 :: u133 :: u134 :: u135 :: u136 :: u137 :: u138 :: u139 :: u140 :: u141 :: u142 :: u143 :: u144 :: u145 :: u146 :: u147 :: u148 :: u149 :: u150 :: u151 :: u152 :: u153 :: u154 :: u155 :: u156 :: u157 :: u158 :: t159 :: t160 :: t161 :: t162 :: t163 :: t164 :: t165 :: t166 :: t167 :: t168 :: t169 :: t170 :: t171 :: []).toArray, []⟩ w') :
    Code.wp Try.prog (Code.loop (loopN Try.f16 1)) Q ⟨(t0 :: (.slice A' 16 c') :: (.slice Ab 256 cb) :: t3 :: t4 :: t5 :: t6 :: (.slice Aw 44 cw) :: (.slice (some ⟨g, 0, none⟩) 16 16) :: t9 :: (.int .i64 1) :: t11 :: t12 :: t13 :: t14 :: t15 :: t16 :: t17 :: t18 :: t19 :: t20 :: t21 :: t22 :: t23 :: t24 :: t25 :: t26 :: t27 :: t28 :: t29 :: t30 :: t31 :: t32 :: t33 :: t34 :: t35 :: t36 :: t37 :: t38 :: t39 :: t40 :: t41 :: t42 :: t43 :: t44 :: t45 :: t46 :: t47 :: t48 :: t49 :: t50 :: t51 :: t52 :: t53 :: t54 :: t55 :: t56 :: t57 :: t58 :: t59 :: t60 :: t61 :: t62 :: t63 :: t64 :: t65 :: t66 :: t67 :: t68 :: t69 :: t70 :: t71 :: t72 :: t73 :: t74 :: t75 :: t76 :: t77 :: t78 :: t79 :: t80 :: t81 :: t82 :: t83 :: t84 :: t85 :: t86 :: t87 :: t88 :: t89 :: t90 :: t91 :: t92 :: t93 :: t94 :: t95 :: t96 :: t97 :: t98 :: t99 :: t100 :: t101 :: t102 :: t103 :: t104 :: t105 :: t106 :: t107 :: t108 :: t109 :: t110 :: t111 :: t112 :: t113 :: t114 :: t115 :: t116 :: t117 :: t118 :: t119 :: t120 :: t121 :: t122 :: t123 :: t124 :: t125 :: t126 :: t127 :: t128 :: t129 :: t130 :: t131 :: t132 :: t133 :: t134 :: t135 :: t136 :: t137 :: t138 :: t139 :: t140 :: t141 :: t142 :: t143 :: t144 :: t145 :: t146 :: t147 :: t148 :: t149 :: t150 :: t151 :: t152 :: t153 :: t154 :: t155 :: t156 :: t157 :: t158 :: t159 :: t160 :: t161 :: t162 :: t163 :: t164 :: t165 :: t166 :: t167 :: t168 :: t169 :: t170 :: t171 :: []).toArray, []⟩ w := by
  conv => arg 2; arg 1; whnf
  have HS := hid hS; have HBX := hid hBox; have HW := hid hW; have HKY := hid hky; have HG := hid hg
  have hmk := mkI16
  clear hS hBox hW hky hg
  go_loopg [10] 10 (fun r ii wr => ∃ m : Nat, m + r = 10 ∧ ii = .int .i64 ((m + 1 : Nat) : Int) ∧ wr.heap[g]? = some (.cells (bI (rs ky S0 m)) 3 (0, 0)) ∧ Below wb.heap.size wb wr)
  case atStart => exact ⟨0, rfl, rfl, h0, hb⟩
  case round =>
    clear h0 hb
    obtain ⟨m, hm, rfl, h0, hb⟩ := hrel
    have HM := hid hm; have H0 := hid h0; have HB := hid hb
    have hm10 : m ≤ 10 := by omega
    clear hm h0 hb
    obtain ⟨n, hn⟩ : ∃ n, n = m + 1 := ⟨_, rfl⟩
    rw [← hn]
    by_cases hlt : m < 10
    · have hx : (n : Int) ≤ 10 := by omega
      have hx' : ¬ (10 : Int) < (n : Int) := by omega
      clear hexit
      obtain ⟨X, hX⟩ : ∃ X, X = rd ky S0 m := ⟨_, rfl⟩
      have hXl : ∀ i, X i < 256 := by rw [hX]; exact rd_lt HKY.out HS.out m
      have H0X : Hid (wr.heap[g]? = some (.cells (bI (X)) 3 (0, 0))) := hid (by rw [hX]; have h := H0.out; unfold rs at h; rwa [if_neg (by omega)] at h)
      have hgl : g < wr.heap.size := block_lt H0.out
      have hszb : wb.heap.size ≤ wr.heap.size := HB.out.size
      have HX := hid hX; have HXL := hid hXl; have HN := hid hn; have HGL := hid hgl; have HSZ := hid hszb
      have hw1 : IntKind.i64.wrap ((n : Int) + 1) = ((m + 1 + 1 : Nat) : Int) := (IntWalk.i64_in _ (by omega)).trans (by omega)
      have ha0 : Hid ((wr.alloc (.cells (bI fun _ => 0) 3)).heap[g]? = some (.cells (bI (X)) 3 (0, 0))) := hid (blkA H0X.out _)
      have ha1 : Hid ((wr.alloc (.cells (bI fun _ => 0) 3)).heap[wr.heap.size]? = some (.cells (bI (fun _ => 0)) 3 (0, 0))) := hid (blkN rfl _ _)
      have ha2 : Hid (Below wb.heap.size wb (wr.alloc (.cells (bI fun _ => 0) 3))) := hid (HB.out.alloc HSZ.out _)
      clear hX hXl H0 H0X hgl hszb hn
      go_wp2
      refine blk11_l3 A' Ab Aw c' cb cw g ky wb _ wr.heap.size X _ _ _ _ _ _ _ _ _ _ _ _ _ _ _ _ _ _ _ _ _ _ _ _ _ _ _ _ _ _ _ _ _ _ _ _ _ _ _ _ _ _ _ _ _ _ _ _ _ _ _ _ _ _ _ _ _ _ _ _ _ _ _ _ _ _ _ _ _ _ _ _ _ _ _ _ _ _ _ _ _ _ _ _ _ _ _ _ _ _ _ _ _ _ _ _ _ _ _ _ _ _ _ _ _ _ _ _ _ _ _ _ _ _ _ _ _ _ _ _ _ _ _ _ _ _ _ _ _ _ _ _ _ _ _ _ _ _ _ _ _ _ _ _ _ _ _ _ _ _ _ _ _ _ _ _ _ _ _ _ _ _ _ _ _ _ HXL.out HBX.out HG.out HSZ.out (by have := HGL.out; omega) ha0.out ha1.out ha2.out ?_
      intro w2 u13 u51 u52 u53 u54 u55 u56 u57 u58 u59 u60 u61 u62 u63 u64 u65 u66 u67 u68 u69 u70 u71 u72 u73 u74 u75 u76 u77 k0 k1 k2
      obtain ⟨T, hT⟩ : ∃ T, T = tur (boxS X) := ⟨_, rfl⟩
      rw [← hT] at k1
      have K0 := hid k0; have K1 := hid k1; have K2 := hid k2
      have hTl : ∀ i, T i < 256 := by rw [hT]; exact tur_lt (boxS_lt HXL.out)
      have HT := hid hT; have HTL := hid hTl
      clear k0 k1 k2 hT hTl ha0 ha1 ha2 HB
      by_cases hl : n < 10
      · have hli : (n : Int) < 10 := by omega
        have hz2 : wr.heap.size < w2.heap.size := block_lt K1.out
        have hz3 : wb.heap.size ≤ w2.heap.size := K2.out.size
        have hb0 : Hid ((w2.alloc (.cells (bI fun _ => 0) 3)).heap[wr.heap.size]? = some (.cells (bI (T)) 3 (0, 0))) := hid (blkA K1.out _)
        have hb1 : Hid ((w2.alloc (.cells (bI fun _ => 0) 3)).heap[w2.heap.size]? = some (.cells (bI (fun _ => 0)) 3 (0, 0))) := hid (blkN rfl _ _)
        have hb2 : Hid ((w2.alloc (.cells (bI fun _ => 0) 3)).heap[g]? = some (.cells (bI (X)) 3 (0, 0))) := hid (blkA K0.out _)
        have hb3 : Hid (Below wb.heap.size wb (w2.alloc (.cells (bI fun _ => 0) 3))) := hid (K2.out.alloc hz3 _)
        have HZ2 := hid hz2; have HZ3 := hid hz3
        clear hz2 hz3 K0 K1 K2
        go_wp2
        refine blk11_l5 A' Ab Aw c' cb cw g ky wb _ wr.heap.size w2.heap.size X T _ _ _ _ _ _ _ _ _ _ _ _ _ _ _ _ _ _ _ _ _ _ _ _ _ _ _ _ _ _ _ _ _ _ _ _ _ _ _ _ _ _ _ _ _ _ _ _ _ _ _ _ _ _ _ _ _ _ _ _ _ _ _ _ _ _ _ _ _ _ _ _ _ _ _ _ _ _ _ _ _ _ _ _ _ _ _ _ _ _ _ _ _ _ _ _ _ _ _ _ _ _ _ _ _ _ _ _ _ _ _ _ _ _ _ _ _ _ _ _ _ _ _ _ _ _ _ _ _ _ _ _ _ _ _ _ _ _ _ _ _ _ _ _ _ _ _ _ _ _ _ _ _ _ _ _ _ _ _ _ _ _ _ _ _ HTL.out HSZ.out HZ3.out HG.out (by have := HZ2.out; omega) (by have := HZ2.out; have := HGL.out; omega) hb0.out hb1.out hb2.out hb3.out ?_
        intro w3 u16 u81 u82 u83 u84 u85 u86 u87 u88 u89 u90 u91 u92 u93 u94 u95 u96 u97 u98 u99 u100 u101 u102 u103 u104 u105 u106 u107 u108 u109 u110 u111 u112 u113 u114 u115 u116 u117 u118 u119 u120 u121 u122 u123 u124 u125 u126 u127 u128 u129 u130 u131 u132 u133 k0 k1 k2
        have K0 := hid k0; have K1 := hid k1; have K2 := hid k2
        clear k0 k1 k2 hb0 hb1 hb2 hb3
        go_wp2
        refine blk11_l7 A' Ab Aw c' cb cw g ky wb _ n w2.heap.size X (mixS T) _ _ _ _ _ _ _ _ _ _ _ _ _ _ _ _ _ _ _ _ _ _ _ _ _ _ _ _ _ _ _ _ _ _ _ _ _ _ _ _ _ _ _ _ _ _ _ _ _ _ _ _ _ _ _ _ _ _ _ _ _ _ _ _ _ _ _ _ _ _ _ _ _ _ _ _ _ _ _ _ _ _ _ _ _ _ _ _ _ _ _ _ _ _ _ _ _ _ _ _ _ _ _ _ _ _ _ _ _ _ _ _ _ _ _ _ _ _ _ _ _ _ _ _ _ _ _ _ _ _ _ _ _ _ _ _ _ _ _ _ _ _ _ _ _ _ _ _ _ _ _ _ _ _ _ _ _ _ _ _ _ _ _ _ _ (by omega) (mixS_lt HTL.out) HW.out HKY.out HG.out (by have := HZ2.out; have := HGL.out; omega) K1.out K0.out K2.out ?_
        intro w4 u135 u136 u137 u138 u139 u140 u141 u142 u143 u144 u145 u146 u147 u148 u149 u150 u151 u152 u153 u154 u155 u156 u157 u158 k3 k4
        have K3 : Hid (w4.heap[g]? = some (.cells (bI (rs ky S0 (m + 1))) 3 (0, 0))) := hid (k3.trans (by
          have e : (fun i => mixS T i ^^^ kW ky n i) = rs ky S0 (m + 1) := by
            unfold rs
            rw [if_neg (by have := HN.out; omega), HT.out, HX.out, HN.out]; rfl
          rw [e]))
        have K4 := hid k4
        clear k3 k4 K0 K1 K2
        go_wp2
        have hm := HM.out
        go_roundg (10 - m - 1)
        case measure => omega
        case rel => exact ⟨m + 1, by omega, rfl, K3.out, K4.out⟩
      · have hli : ¬ (n : Int) < 10 := by omega
        go_wp2
        refine blk11_l7 A' Ab Aw c' cb cw g ky wb _ n wr.heap.size X T _ _ _ _ _ _ _ _ _ _ _ _ _ _ _ _ _ _ _ _ _ _ _ _ _ _ _ _ _ _ _ _ _ _ _ _ _ _ _ _ _ _ _ _ _ _ _ _ _ _ _ _ _ _ _ _ _ _ _ _ _ _ _ _ _ _ _ _ _ _ _ _ _ _ _ _ _ _ _ _ _ _ _ _ _ _ _ _ _ _ _ _ _ _ _ _ _ _ _ _ _ _ _ _ _ _ _ _ _ _ _ _ _ _ _ _ _ _ _ _ _ _ _ _ _ _ _ _ _ _ _ _ _ _ _ _ _ _ _ _ _ _ _ _ _ _ _ _ _ _ _ _ _ _ _ _ _ _ _ _ _ _ _ _ _ (by omega) HTL.out HW.out HKY.out HG.out (by have := HGL.out; omega) K0.out K1.out K2.out ?_
        intro w4 u135 u136 u137 u138 u139 u140 u141 u142 u143 u144 u145 u146 u147 u148 u149 u150 u151 u152 u153 u154 u155 u156 u157 u158 k3 k4
        have K3 : Hid (w4.heap[g]? = some (.cells (bI (rs ky S0 (m + 1))) 3 (0, 0))) := hid (k3.trans (by
          have e : (fun i => T i ^^^ kW ky n i) = rs ky S0 (m + 1) := by
            unfold rs
            rw [if_pos (by have := HN.out; omega), HT.out, HX.out, show m = 9 by have := HN.out; omega, show n = 10 by have := HN.out; omega]; rfl
          rw [e]))
        have K4 := hid k4
        clear k3 k4 K0 K1 K2
        go_wp2
        have hm := HM.out
        go_roundg (10 - m - 1)
        case measure => omega
        case rel => exact ⟨m + 1, by omega, rfl, K3.out, K4.out⟩
    · have hme : m = 10 := by omega
      subst hme
      subst hn
      have K3 : Hid (wr.heap[g]? = some (.cells (bI (sealN ky S0)) 3 (0, 0))) := hid (by have h := H0.out; unfold rs at h; rwa [if_pos rfl] at h)
      go_wp2
      exact hexit _ _ _ _ _ _ _ _ _ _ _ _ _ _ _ _ _ _ _ _ _ _ _ _ _ _ _ _ _ _ _ _ _ _ _ _ _ _ _ _ _ _ _ _ _ _ _ _ _ _ _ _ _ _ _ _ _ _ _ _ _ _ _ _ _ _ _ _ _ _ _ _ _ _ _ _ _ _ _ _ _ _ _ _ _ _ _ _ _ _ _ _ _ _ _ _ _ _ _ _ _ _ _ _ _ _ _ _ _ _ _ _ _ _ _ _ _ _ _ _ _ K3.out HB.out
end Go.Proofs.Ytfjcedfjfadfpaa
