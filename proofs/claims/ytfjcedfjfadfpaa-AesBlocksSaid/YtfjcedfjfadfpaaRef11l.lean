/-
  The document's layer 11, a block sealed: its bytes.
-/
import Derived.Test.YtfjcedfjfadfpaaRef11f
namespace Go.Proofs.Ytfjcedfjfadfpaa
open Go.RowKit
set_option linter.unusedVariables false
set_option linter.unusedSimpArgs false

/-- The first k bytes. -/
def bkN (Z : Nat → Nat) (k : Nat) : List UInt8 := (List.range k).map fun i => UInt8.ofNat (Z i)
theorem blkN_length (Z : Nat → Nat) (k : Nat) : (bkN Z k).length = k := by simp [bkN]
theorem blkN_succ (Z : Nat → Nat) (k : Nat) : bkN Z (k + 1) = bkN Z k ++ [UInt8.ofNat (Z k)] := by unfold bkN; rw [List.range_succ, List.map_append]; rfl
set_option maxRecDepth 100000 in
set_option maxHeartbeats 4000000 in
theorem blk11_l8 {Q : Exit → Act → World → Prop} (A' Ab Aw : Option Addr) (c' cb cw g : Nat) (ky : Nat → Nat) (wb w : World) (Z : Nat → Nat) (t0 t3 t4 t5 t6 t9 t10 t11 t12 t13 t14 t15 t16 t17 t20 t21 t22 t23 t24 t25 t26 t27 t28 t29 t30 t31 t32 t33 t34 t35 t36 t37 t38 t39 t40 t41 t42 t43 t44 t45 t46 t47 t48 t49 t50 t51 t52 t53 t54 t55 t56 t57 t58 t59 t60 t61 t62 t63 t64 t65 t66 t67 t68 t69 t70 t71 t72 t73 t74 t75 t76 t77 t78 t79 t80 t81 t82 t83 t84 t85 t86 t87 t88 t89 t90 t91 t92 t93 t94 t95 t96 t97 t98 t99 t100 t101 t102 t103 t104 t105 t106 t107 t108 t109 t110 t111 t112 t113 t114 t115 t116 t117 t118 t119 t120 t121 t122 t123 t124 t125 t126 t127 t128 t129 t130 t131 t132 t133 t134 t135 t136 t137 t138 t139 t140 t141 t142 t143 t144 t145 t146 t147 t148 t149 t150 t151 t152 t153 t154 t155 t156 t157 t158 t159 t160 t161 t162 t163 t164 t165 t166 t167 t168 t169 t170 t171 : Value) (hZ : ∀ i, Z i < 256) (h0 : w.heap[g]? = some (.cells (bI (Z)) 3 (0, 0)))
    (hexit : ∀ (w' : World) (u18 u159 u160 u161 u162 u163 u164 u165 u166 u167 u168 u169 u170 : Value), OwnB w' w.heap.size u18 (bkN Z 16) → Below w.heap.size w w' → Q (.exit 14) ⟨(t0 :: (.slice A' 16 c') :: (.slice Ab 256 cb) :: t3 :: t4 :: t5 :: t6 :: (.slice Aw 44 cw) :: (.slice (some ⟨g, 0, none⟩) 16 16) :: t9 :: t10 :: t11 :: t12 :: t13 :: t14 :: t15 :: t16 :: t17 :: u18 :: (.int .i64 16) :: t20 :: t21 :: t22 :: t23 :: t24 :: t25 :: t26 :: t27 :: t28 :: t29 :: t30 :: t31 :: t32 :: t33 :: t34 :: t35 :: t36 :: t37 :: t38 :: t39 :: t40 :: t41 :: t42 :: t43 :: t44 :: t45 :: t46 :: t47 :: t48 :: t49 :: t50 :: t51 :: t52 :: t53 :: t54 :: t55 :: t56 :: t57 :: t58 :: t59 :: t60 :: t61 :: t62 :: t63 :: t64 :: t65 :: t66 :: t67 :: t68 :: t69 :: t70 :: t71 :: t72 :: t73 :: t74 :: t75 :: t76 :: t77 :: t78 :: t79 :: t80 :: t81 :: t82 :: t83 :: t84 :: t85 :: t86 :: t87 :: t88 :: t89 :: t90 :: t91 :: t92 :: t93 :: t94 :: t95 :: t96 :: t97 :: t98 :: t99 :: t100 :: t101 :: t102 :: t103 :: t104 :: t105 :: t106 :: t107 :: t108 :: t109 :: t110 :: t111 :: t112 :: t113 :: t114 :: t115 :: t116 :: t117 :: t118 :: t119 :: t120 :: t121 :: t122 :: t123 :: t124 :: t125 :: t126 :: t127 :: t128 :: t129 :: t130 :: t131 :: t132 :: t133 :: t134 :: t135 :: t136 :: t137 :: t138 :: t139 :: t140 :: t141 :: t142 :: t143 :: t144 :: t145 :: t146 :: t147 :: t148 :: t149 :: t150 :: t151 :: t152 :: t153 :: t154 :: t155 :: t156 :: t157 :: t158 :: u159 :: u160 :: u161 :: u162 :: u163 :: u164 :: u165 :: u166 :: u167 :: u168 :: u169 :: u170 :: t171 :: []).toArray, []⟩ w') :
    Code.wp Try.prog (Code.loop (loopN Try.f16 7)) Q ⟨(t0 :: (.slice A' 16 c') :: (.slice Ab 256 cb) :: t3 :: t4 :: t5 :: t6 :: (.slice Aw 44 cw) :: (.slice (some ⟨g, 0, none⟩) 16 16) :: t9 :: t10 :: t11 :: t12 :: t13 :: t14 :: t15 :: t16 :: t17 :: (.slice none 0 0) :: (.int .i64 0) :: t20 :: t21 :: t22 :: t23 :: t24 :: t25 :: t26 :: t27 :: t28 :: t29 :: t30 :: t31 :: t32 :: t33 :: t34 :: t35 :: t36 :: t37 :: t38 :: t39 :: t40 :: t41 :: t42 :: t43 :: t44 :: t45 :: t46 :: t47 :: t48 :: t49 :: t50 :: t51 :: t52 :: t53 :: t54 :: t55 :: t56 :: t57 :: t58 :: t59 :: t60 :: t61 :: t62 :: t63 :: t64 :: t65 :: t66 :: t67 :: t68 :: t69 :: t70 :: t71 :: t72 :: t73 :: t74 :: t75 :: t76 :: t77 :: t78 :: t79 :: t80 :: t81 :: t82 :: t83 :: t84 :: t85 :: t86 :: t87 :: t88 :: t89 :: t90 :: t91 :: t92 :: t93 :: t94 :: t95 :: t96 :: t97 :: t98 :: t99 :: t100 :: t101 :: t102 :: t103 :: t104 :: t105 :: t106 :: t107 :: t108 :: t109 :: t110 :: t111 :: t112 :: t113 :: t114 :: t115 :: t116 :: t117 :: t118 :: t119 :: t120 :: t121 :: t122 :: t123 :: t124 :: t125 :: t126 :: t127 :: t128 :: t129 :: t130 :: t131 :: t132 :: t133 :: t134 :: t135 :: t136 :: t137 :: t138 :: t139 :: t140 :: t141 :: t142 :: t143 :: t144 :: t145 :: t146 :: t147 :: t148 :: t149 :: t150 :: t151 :: t152 :: t153 :: t154 :: t155 :: t156 :: t157 :: t158 :: t159 :: t160 :: t161 :: t162 :: t163 :: t164 :: t165 :: t166 :: t167 :: t168 :: t169 :: t170 :: t171 :: []).toArray, []⟩ w := by
  conv => arg 2; arg 1; whnf
  have HZ := hid hZ; have H0 := hid h0
  have HGL : Hid (g < w.heap.size) := hid (block_lt h0)
  clear hZ h0
  go_loopg [18, 19] 16 (fun r v ii wr => ∃ k : Nat, k + r = 16 ∧ ii = .int .i64 (k : Int) ∧ OwnB wr w.heap.size v (bkN Z k) ∧ Below w.heap.size w wr)
  case atStart => exact ⟨0, rfl, rfl, World.ownsRow_nil _ _ _ _, Below.refl _ _⟩
  case round =>
    obtain ⟨k, hk, rfl, ho, hb⟩ := hrel
    have HK := hid hk; have HO := hid ho; have HB := hid hb
    have hk16 : k ≤ 16 := by omega
    clear hk ho hb
    by_cases hlt : k < 16
    · have hx : (k : Int) < 16 := by omega
      have hk0 : (0 : Int) ≤ (k : Int) := by omega
      clear hexit
      obtain ⟨y, hy⟩ : ∃ y, y = Z k := ⟨_, rfl⟩
      have hyl : y < 256 := by rw [hy]; exact HZ.out k
      have hcy : wr.cell? ⟨g, k, none⟩ = some (.int .i64 (y : Int)) := (HB.out.cell (p := ⟨g, k, none⟩) HGL.out).trans (cell_of H0.out k _ (by rw [bI_get _ k hlt, hy]))
      have hym : (y : Int) % 256 = (y : Int) := by omega
      have hyw : IntKind.u8.wrap (y : Int) = (y : Int) := by rw [IntKind.wrap_u8]; exact hym
      have HY := hid hy; have HYL := hid hyl
      have HO1 := hid (World.ownsRow.alloc HO.out (.cells #[.int .u8 (y : Int)] 5))
      have hlen : (bkN Z k).length = k := blkN_length Z k
      have hsz := HB.out.size
      have hwi : IntKind.i64.wrap ((k : Int) + 1) = ((k + 1 : Nat) : Int) := (IntWalk.i64_in _ (by omega)).trans (by omega)
      clear hy hyl HO
      go_wp2_with (at_builtin; refine wpList_append_lie rfl _ _ 28 rfl w.heap.size 5 (.int .u8 0) 1 Try.underlying28 infoU8 rfl rfl HO1.out rfl rfl (Lie.new1 _ _ _) (by intro u hu; simp at hu; subst hu; rfl) ?e1 ?e2 ?e3 ?_)
      case e1 => rw [hlen]; first | (rw [List.length_singleton]; unfold maxLen; omega) | (unfold maxLen; omega)
      case e2 => rw [hlen]; first | (rw [List.length_singleton]; omega) | omega
      case e3 => first | (simp; omega) | omega
      intro v3 w3 hown3 hg3 _
      have hb3 : Below w.heap.size w w3 := (HB.out.alloc hsz _).grown hg3 (by simp; omega) (fun q h => own_lt HO1.out q h)
      have HO3 : Hid (OwnB w3 w.heap.size v3 (bkN Z (k + 1))) := hid (by
        rw [blkN_succ]
        exact own_snoc hown3 (by rw [blkN_length]) (by rw [← HY.out, ofNat_b HYL.out]))
      have HB3 := hid hb3
      clear hown3 hg3 hb3 HO1 HB hsz
      go_wp2
      have hk := HK.out
      go_roundg (16 - k - 1)
      case measure => omega
      case rel => exact ⟨k + 1, by omega, rfl, HO3.out, HB3.out⟩
    · have hke : k = 16 := by omega
      subst hke
      have hx : ¬ ((16 : Nat) : Int) < 16 := by omega
      clear hx
      go_wp2
      exact hexit _ _ _ _ _ _ _ _ _ _ _ _ _ _ HO.out HB.out
end Go.Proofs.Ytfjcedfjfadfpaa
