/-
  The document's own longer digest: the bits of a round.
-/
import Derived.Test.YtokggppfobbblaaDoorRef03a
namespace Go.Proofs.YtokggppfobbblaaDoor
open Go.RowKit
set_option linter.unusedVariables false
set_option linter.unusedSimpArgs false

theorem pow_le63 (k : Nat) (h : k < 64) : 2 ^ k ≤ 9223372036854775808 := by
  have e : (9223372036854775808 : Nat) = 2 ^ 63 := by decide
  rw [e]; exact Nat.pow_le_pow_right (by omega) (by omega)

set_option maxRecDepth 100000 in
set_option maxHeartbeats 4000000 in
theorem bits3_loop {Q : Exit → Act → World → Prop} (gq cq va vb vc ve vf vg : Nat) (wq : World) (t0 t1 t2 t3 t4 t5 t6 t7 t8 t9 t10 t11 t12 t13 t14 t15 t16 t17 t18 t19 t21 t26 t27 t28 t29 t30 t31 t32 t33 t34 t35 t36 t37 t38 t39 t40 t41 t42 t43 t44 t45 t46 t47 t48 t49 t50 t51 t52 t53 t54 t55 t56 t57 t58 t59 t60 t61 t62 t63 t64 t65 t66 t67 t68 t69 t70 t71 t72 t73 t74 t75 t76 t77 t78 t79 t80 t81 t82 t83 t84 t85 t86 t87 t88 t89 t90 t91 t92 t93 t94 t95 t96 t97 t98 t99 t100 t101 t102 t103 t104 t105 t106 t107 t108 t109 t110 t111 t112 t113 t114 t115 t116 t117 t118 t119 t120 t121 t122 t123 t124 t125 t126 t127 t128 t129 t130 t131 t132 t133 t134 t135 t136 t137 t138 t139 t140 t141 t142 t143 t144 t145 t146 t147 t148 t149 t150 t151 t152 t153 t154 t155 t156 t157 t158 t159 t160 t161 t162 t163 t164 t165 t166 t167 t168 t169 t170 t171 t172 t173 t174 t175 t176 t177 t178 t179 t180 t181 t182 t183 t184 t185 t186 t187 t188 t189 t190 t191 t192 t193 t194 t195 t196 t197 t198 t199 t200 t201 t202 t203 t204 t205 t206 t207 t208 t209 t210 t211 t212 t213 t214 t215 t216 t217 t218 t219 t220 t221 t222 t223 t224 t225 t226 t227 t228 t229 t230 t231 t232 t233 t234 t235 t236 t237 t238 t239 t240 t241 t242 t243 t244 t245 t246 t247 t248 t249 t250 t251 t252 t253 t254 t255 t256 t257 t258 t259 t260 t261 t262 t263 t264 t265 t266 t267 t268 t269 t270 t271 t272 t273 t274 t275 t276 t277 t278 t279 t280 t281 t282 t283 t284 t285 t286 t287 t288 t289 t290 t291 t292 t293 t294 t295 t296 t297 t298 t299 t300 t301 t302 t303 t304 t305 t306 t307 t308 t309 t310 t311 t312 t313 t314 t315 t316 t317 t318 t319 t320 t321 t322 t323 t324 t325 t326 t327 t328 t329 t330 t331 t332 t333 t334 t335 t336 t337 t338 t339 t340 t341 t342 t343 t344 t345 t346 t347 t348 t349 t350 t351 t352 t353 : Value)
    (hcq1 : 8 ≤ cq) (h1 : va < 18446744073709551616) (h2 : vb < 18446744073709551616) (h3 : vc < 18446744073709551616) (h5 : ve < 18446744073709551616) (h6 : vf < 18446744073709551616) (h7 : vg < 18446744073709551616)
    (hc0 : wq.cell? ⟨gq, 0, none⟩ = some (.int .u64 (va : Int))) (hc1 : wq.cell? ⟨gq, 1, none⟩ = some (.int .u64 (vb : Int))) (hc2 : wq.cell? ⟨gq, 2, none⟩ = some (.int .u64 (vc : Int)))
    (hc4 : wq.cell? ⟨gq, 4, none⟩ = some (.int .u64 (ve : Int))) (hc5 : wq.cell? ⟨gq, 5, none⟩ = some (.int .u64 (vf : Int))) (hc6 : wq.cell? ⟨gq, 6, none⟩ = some (.int .u64 (vg : Int)))
    (hexit : ∀ (n : Nat) (u24 u25 u26 u189 u190 u191 u192 u193 u194 u195 u196 u197 u198 u199 u200 u201 u202 u203 u204 u205 u206 u207 u208 u209 u210 u211 u212 u213 u214 u215 u216 u217 u218 u219 u220 u221 u222 u223 u224 u225 u226 u227 u228 u229 u230 u231 u232 u233 u234 u235 u236 u237 u238 u239 : Value), Q (.exit 18) ⟨(t0 :: t1 :: t2 :: t3 :: t4 :: t5 :: t6 :: t7 :: t8 :: t9 :: t10 :: t11 :: t12 :: t13 :: t14 :: t15 :: t16 :: t17 :: t18 :: t19 :: (.slice (some ⟨gq, 0, none⟩) 8 cq) :: t21 :: (.int .u64 ((chL ve vf vg : Nat) : Int)) :: (.int .u64 ((majL va vb vc : Nat) : Int)) :: u24 :: u25 :: u26 :: t27 :: t28 :: t29 :: t30 :: t31 :: t32 :: t33 :: t34 :: t35 :: t36 :: t37 :: t38 :: t39 :: t40 :: t41 :: t42 :: t43 :: t44 :: t45 :: t46 :: t47 :: t48 :: t49 :: t50 :: t51 :: t52 :: t53 :: t54 :: t55 :: t56 :: t57 :: t58 :: t59 :: t60 :: t61 :: t62 :: t63 :: t64 :: t65 :: t66 :: t67 :: t68 :: t69 :: t70 :: t71 :: t72 :: t73 :: t74 :: t75 :: t76 :: t77 :: t78 :: t79 :: t80 :: t81 :: t82 :: t83 :: t84 :: t85 :: t86 :: t87 :: t88 :: t89 :: t90 :: t91 :: t92 :: t93 :: t94 :: t95 :: t96 :: t97 :: t98 :: t99 :: t100 :: t101 :: t102 :: t103 :: t104 :: t105 :: t106 :: t107 :: t108 :: t109 :: t110 :: t111 :: t112 :: t113 :: t114 :: t115 :: t116 :: t117 :: t118 :: t119 :: t120 :: t121 :: t122 :: t123 :: t124 :: t125 :: t126 :: t127 :: t128 :: t129 :: t130 :: t131 :: t132 :: t133 :: t134 :: t135 :: t136 :: t137 :: t138 :: t139 :: t140 :: t141 :: t142 :: t143 :: t144 :: t145 :: t146 :: t147 :: t148 :: t149 :: t150 :: t151 :: t152 :: t153 :: t154 :: t155 :: t156 :: t157 :: t158 :: t159 :: t160 :: t161 :: t162 :: t163 :: t164 :: t165 :: t166 :: t167 :: t168 :: t169 :: t170 :: t171 :: t172 :: t173 :: t174 :: t175 :: t176 :: t177 :: t178 :: t179 :: t180 :: t181 :: t182 :: t183 :: t184 :: t185 :: t186 :: t187 :: t188 :: u189 :: u190 :: u191 :: u192 :: u193 :: u194 :: u195 :: u196 :: u197 :: u198 :: u199 :: u200 :: u201 :: u202 :: u203 :: u204 :: u205 :: u206 :: u207 :: u208 :: u209 :: u210 :: u211 :: u212 :: u213 :: u214 :: u215 :: u216 :: u217 :: u218 :: u219 :: u220 :: u221 :: u222 :: u223 :: u224 :: u225 :: u226 :: u227 :: u228 :: u229 :: u230 :: u231 :: u232 :: u233 :: u234 :: u235 :: u236 :: u237 :: u238 :: u239 :: t240 :: t241 :: t242 :: t243 :: t244 :: t245 :: t246 :: t247 :: t248 :: t249 :: t250 :: t251 :: t252 :: t253 :: t254 :: t255 :: t256 :: t257 :: t258 :: t259 :: t260 :: t261 :: t262 :: t263 :: t264 :: t265 :: t266 :: t267 :: t268 :: t269 :: t270 :: t271 :: t272 :: t273 :: t274 :: t275 :: t276 :: t277 :: t278 :: t279 :: t280 :: t281 :: t282 :: t283 :: t284 :: t285 :: t286 :: t287 :: t288 :: t289 :: t290 :: t291 :: t292 :: t293 :: t294 :: t295 :: t296 :: t297 :: t298 :: t299 :: t300 :: t301 :: t302 :: t303 :: t304 :: t305 :: t306 :: t307 :: t308 :: t309 :: t310 :: t311 :: t312 :: t313 :: t314 :: t315 :: t316 :: t317 :: t318 :: t319 :: t320 :: t321 :: t322 :: t323 :: t324 :: t325 :: t326 :: t327 :: t328 :: t329 :: t330 :: t331 :: t332 :: t333 :: t334 :: t335 :: t336 :: t337 :: t338 :: t339 :: t340 :: t341 :: t342 :: t343 :: t344 :: t345 :: t346 :: t347 :: t348 :: t349 :: t350 :: t351 :: t352 :: t353 :: []).toArray, []⟩ (wq.drewN n)) :
    Code.wp Tryd.prog (Code.loop (loopN Tryd.f17 9)) Q ⟨(t0 :: t1 :: t2 :: t3 :: t4 :: t5 :: t6 :: t7 :: t8 :: t9 :: t10 :: t11 :: t12 :: t13 :: t14 :: t15 :: t16 :: t17 :: t18 :: t19 :: (.slice (some ⟨gq, 0, none⟩) 8 cq) :: t21 :: (.int .u64 0) :: (.int .u64 0) :: (.int .u64 1) :: (.int .i64 0) :: t26 :: t27 :: t28 :: t29 :: t30 :: t31 :: t32 :: t33 :: t34 :: t35 :: t36 :: t37 :: t38 :: t39 :: t40 :: t41 :: t42 :: t43 :: t44 :: t45 :: t46 :: t47 :: t48 :: t49 :: t50 :: t51 :: t52 :: t53 :: t54 :: t55 :: t56 :: t57 :: t58 :: t59 :: t60 :: t61 :: t62 :: t63 :: t64 :: t65 :: t66 :: t67 :: t68 :: t69 :: t70 :: t71 :: t72 :: t73 :: t74 :: t75 :: t76 :: t77 :: t78 :: t79 :: t80 :: t81 :: t82 :: t83 :: t84 :: t85 :: t86 :: t87 :: t88 :: t89 :: t90 :: t91 :: t92 :: t93 :: t94 :: t95 :: t96 :: t97 :: t98 :: t99 :: t100 :: t101 :: t102 :: t103 :: t104 :: t105 :: t106 :: t107 :: t108 :: t109 :: t110 :: t111 :: t112 :: t113 :: t114 :: t115 :: t116 :: t117 :: t118 :: t119 :: t120 :: t121 :: t122 :: t123 :: t124 :: t125 :: t126 :: t127 :: t128 :: t129 :: t130 :: t131 :: t132 :: t133 :: t134 :: t135 :: t136 :: t137 :: t138 :: t139 :: t140 :: t141 :: t142 :: t143 :: t144 :: t145 :: t146 :: t147 :: t148 :: t149 :: t150 :: t151 :: t152 :: t153 :: t154 :: t155 :: t156 :: t157 :: t158 :: t159 :: t160 :: t161 :: t162 :: t163 :: t164 :: t165 :: t166 :: t167 :: t168 :: t169 :: t170 :: t171 :: t172 :: t173 :: t174 :: t175 :: t176 :: t177 :: t178 :: t179 :: t180 :: t181 :: t182 :: t183 :: t184 :: t185 :: t186 :: t187 :: t188 :: t189 :: t190 :: t191 :: t192 :: t193 :: t194 :: t195 :: t196 :: t197 :: t198 :: t199 :: t200 :: t201 :: t202 :: t203 :: t204 :: t205 :: t206 :: t207 :: t208 :: t209 :: t210 :: t211 :: t212 :: t213 :: t214 :: t215 :: t216 :: t217 :: t218 :: t219 :: t220 :: t221 :: t222 :: t223 :: t224 :: t225 :: t226 :: t227 :: t228 :: t229 :: t230 :: t231 :: t232 :: t233 :: t234 :: t235 :: t236 :: t237 :: t238 :: t239 :: t240 :: t241 :: t242 :: t243 :: t244 :: t245 :: t246 :: t247 :: t248 :: t249 :: t250 :: t251 :: t252 :: t253 :: t254 :: t255 :: t256 :: t257 :: t258 :: t259 :: t260 :: t261 :: t262 :: t263 :: t264 :: t265 :: t266 :: t267 :: t268 :: t269 :: t270 :: t271 :: t272 :: t273 :: t274 :: t275 :: t276 :: t277 :: t278 :: t279 :: t280 :: t281 :: t282 :: t283 :: t284 :: t285 :: t286 :: t287 :: t288 :: t289 :: t290 :: t291 :: t292 :: t293 :: t294 :: t295 :: t296 :: t297 :: t298 :: t299 :: t300 :: t301 :: t302 :: t303 :: t304 :: t305 :: t306 :: t307 :: t308 :: t309 :: t310 :: t311 :: t312 :: t313 :: t314 :: t315 :: t316 :: t317 :: t318 :: t319 :: t320 :: t321 :: t322 :: t323 :: t324 :: t325 :: t326 :: t327 :: t328 :: t329 :: t330 :: t331 :: t332 :: t333 :: t334 :: t335 :: t336 :: t337 :: t338 :: t339 :: t340 :: t341 :: t342 :: t343 :: t344 :: t345 :: t346 :: t347 :: t348 :: t349 :: t350 :: t351 :: t352 :: t353 :: []).toArray, []⟩ wq := by
  conv => arg 2; arg 1; whnf
  have H1 := hid h1; have H2 := hid h2; have H3 := hid h3; have H5 := hid h5; have H6 := hid h6; have H7 := hid h7
  clear h1 h2 h3 h5 h6 h7
  go_loopg [22, 23, 24, 25] 64 (fun g x y z i wr => ∃ (k X Y Z : Nat), k + g = 64 ∧ i = .int .i64 (k : Int) ∧ x = .int .u64 (X : Int) ∧ y = .int .u64 (Y : Int) ∧ z = .int .u64 (Z : Int) ∧ X = chL ve vf vg % 2 ^ k ∧ Y = majL va vb vc % 2 ^ k ∧ Z = 2 ^ k % 2 ^ 64 ∧ ∃ n, wr = wq.drewN n)
  case atStart => exact ⟨0, 0, 0, 1, rfl, rfl, rfl, rfl, rfl, by rw [Nat.pow_zero, Nat.mod_one], by rw [Nat.pow_zero, Nat.mod_one], by decide, 0, rfl⟩
  case round =>
    obtain ⟨k, X, Y, Z, hk, rfl, rfl, rfl, rfl, hX, hY, hZ, hw⟩ := hrel
    have hcell : ∀ p, wr.cell? p = wq.cell? p := by obtain ⟨n, rfl⟩ := hw; exact fun p => rfl
    rw [← hcell] at hc0 hc1 hc2 hc4 hc5 hc6
    have HW := hid hw
    clear hw hcell
    by_cases hk32 : k < 64
    · have hki : (k : Int) < 64 := by omega
      have hk0 : (0 : Int) ≤ (k : Int) := by omega
      rw [Nat.mod_eq_of_lt (Nat.pow_lt_pow_right (by omega) hk32)] at hZ
      have hZl : Z ≤ 9223372036854775808 := by rw [hZ]; exact pow_le63 k hk32
      have hZp : 0 < Z := by rw [hZ]; exact Nat.two_pow_pos k
      have hXl : X < Z := by rw [hX, hZ]; exact Nat.mod_lt _ (Nat.two_pow_pos k)
      have hYl : Y < Z := by rw [hY, hZ]; exact Nat.mod_lt _ (Nat.two_pow_pos k)
      have hzi : (1 : Int) ≤ (Z : Int) := by omega
      obtain ⟨e1, e2, be1, be2, be, bel⟩ := bitL_q ve Z H5.out
      obtain ⟨f1, f2, bf1, bf2, bf, bfl⟩ := bitL_q vf Z H6.out
      obtain ⟨g1, g2, bg1, bg2, bg, bgl⟩ := bitL_q vg Z H7.out
      obtain ⟨a1, a2, ba1, ba2, ba, bal⟩ := bitL_q va Z H1.out
      obtain ⟨b1, b2, bb1, bb2, bb, bbl⟩ := bitL_q vb Z H2.out
      obtain ⟨d1, d2, bd1, bd2, bd, bdl⟩ := bitL_q vc Z H3.out
      have hch : chL ve vf vg % 2 ^ (k + 1) = X + (if e2 = 1 then f2 else g2) * Z := by rw [mod_bit, chL_bit _ _ _ _ H5.out hk32, ← hX, ← hZ, ← be, ← bf, ← bg]
      have hmj : majL va vb vc % 2 ^ (k + 1) = Y + (if 2 ≤ a2 + b2 + d2 then 1 else 0) * Z := by rw [mod_bit, majL_bit, ← hY, ← hZ, ← ba, ← bb, ← bd]
      obtain ⟨pf, rf, mf1, mf2, mf⟩ := bitL_mul f2 X Z bfl hZl hXl
      obtain ⟨pg, rg, mg1, mg2, mg⟩ := bitL_mul g2 X Z bgl hZl hXl
      obtain ⟨Z2, hZ2⟩ : ∃ z, z = 2 * Z % 18446744073709551616 := ⟨_, rfl⟩
      have hZw : IntKind.u64.wrap (2 * (Z : Int)) = (Z2 : Int) := by rw [IntKind.wrap_u64]; omega
      obtain ⟨Y2, hY2⟩ : ∃ y, y = Y + Z := ⟨_, rfl⟩
      have hYw : IntKind.u64.wrap ((Y : Int) + (Z : Int)) = (Y2 : Int) := by rw [IntKind.wrap_u64]; omega
      obtain ⟨n1, hn1⟩ : ∃ n, n = a2 + b2 := ⟨_, rfl⟩
      obtain ⟨n2, hn2⟩ : ∃ n, n = n1 + d2 := ⟨_, rfl⟩
      have nw1 : IntKind.u64.wrap ((a2 : Int) + (b2 : Int)) = (n1 : Int) := by rw [IntKind.wrap_u64]; omega
      have nw2 : IntKind.u64.wrap ((n1 : Int) + (d2 : Int)) = (n2 : Int) := by rw [IntKind.wrap_u64]; omega
      rw [← hn1, ← hn2] at hmj
      have hzz : Z2 = 2 ^ (k + 1) % 2 ^ 64 := by rw [hZ2, hZ, Nat.pow_succ, Nat.mul_comm]
      have HCH := hid hch; have HMJ := hid hmj; have HZZ := hid hzz; have HKK := hid hk; have HMF := hid mf; have HMG := hid mg; have HY2 := hid hY2
      clear hX hY hZ hXl hYl hZl hch hmj be bf bg ba bb bd hZ2 hn1 hn2 hzz hk mf mg hY2
      have hm : n2 < 2 ∨ 2 ≤ n2 := by omega
      clear hexit
      rcases (by omega : e2 = 0 ∨ e2 = 1) with rfl | rfl
      · replace be2 : Int.tmod (e1 : Int) 2 = 0 := be2
        rcases hm with hm | hm
        · have hmi : (n2 : Int) < 2 := by omega
          go_wp2
          go_quiet (fail)
          go_wp2
          have hk := HKK.out
          go_roundg (64 - k - 1)
          case measure => omega
          case rel => exact ⟨k + 1, rg, Y, Z2, by omega, by go_num, rfl, rfl, rfl, by rw [HCH.out, HMG.out]; rfl, by rw [HMJ.out]; simp [Nat.not_le.2 hm], HZZ.out, by obtain ⟨n, hn⟩ := HW.out; exact ⟨_, by rw [hn, World.drewN_drewN]⟩⟩
        · have hmi : (2 : Int) ≤ (n2 : Int) := by omega
          go_wp2
          go_quiet (fail)
          go_wp2
          have hk := HKK.out
          go_roundg (64 - k - 1)
          case measure => omega
          case rel => exact ⟨k + 1, rg, Y2, Z2, by omega, by go_num, rfl, rfl, rfl, by rw [HCH.out, HMG.out]; rfl, by rw [HMJ.out, HY2.out]; simp [hm], HZZ.out, by obtain ⟨n, hn⟩ := HW.out; exact ⟨_, by rw [hn, World.drewN_drewN]⟩⟩
      · replace be2 : Int.tmod (e1 : Int) 2 = 1 := be2
        rcases hm with hm | hm
        · have hmi : (n2 : Int) < 2 := by omega
          go_wp2
          go_quiet (fail)
          go_wp2
          have hk := HKK.out
          go_roundg (64 - k - 1)
          case measure => omega
          case rel => exact ⟨k + 1, rf, Y, Z2, by omega, by go_num, rfl, rfl, rfl, by rw [HCH.out, HMF.out]; rfl, by rw [HMJ.out]; simp [Nat.not_le.2 hm], HZZ.out, by obtain ⟨n, hn⟩ := HW.out; exact ⟨_, by rw [hn, World.drewN_drewN]⟩⟩
        · have hmi : (2 : Int) ≤ (n2 : Int) := by omega
          go_wp2
          go_quiet (fail)
          go_wp2
          have hk := HKK.out
          go_roundg (64 - k - 1)
          case measure => omega
          case rel => exact ⟨k + 1, rf, Y2, Z2, by omega, by go_num, rfl, rfl, rfl, by rw [HCH.out, HMF.out]; rfl, by rw [HMJ.out, HY2.out]; simp [hm], HZZ.out, by obtain ⟨n, hn⟩ := HW.out; exact ⟨_, by rw [hn, World.drewN_drewN]⟩⟩
    · obtain rfl : k = 64 := by omega
      have hki : ¬ ((64 : Nat) : Int) < 64 := by omega
      have hXe : X = chL ve vf vg := by rw [hX]; exact Nat.mod_eq_of_lt (chL_lt _ _ _ H5.out H6.out H7.out)
      have hYe : Y = majL va vb vc := by rw [hY]; exact Nat.mod_eq_of_lt (majL_lt _ _ _ H2.out H3.out)
      obtain ⟨n, hn⟩ := HW.out
      subst hXe; subst hYe; subst hn
      clear hX hY hZ HW hc0 hc1 hc2 hc4 hc5 hc6
      go_wp2
      exact hexit n _ _ _ _ _ _ _ _ _ _ _ _ _ _ _ _ _ _ _ _ _ _ _ _ _ _ _ _ _ _ _ _ _ _ _ _ _ _ _ _ _ _ _ _ _ _ _ _ _ _ _ _ _ _
end Go.Proofs.YtokggppfobbblaaDoor
