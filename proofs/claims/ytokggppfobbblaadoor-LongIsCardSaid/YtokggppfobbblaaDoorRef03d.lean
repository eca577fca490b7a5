/-
  The document's own longer digest: the rounds of a block.
-/
import Derived.Test.YtokggppfobbblaaDoorRef03b
namespace Go.Proofs.YtokggppfobbblaaDoor
open Go.RowKit
set_option linter.unusedVariables false
set_option linter.unusedSimpArgs false

set_option maxRecDepth 100000 in
set_option maxHeartbeats 4000000 in
theorem rounds3_loop {Q : Exit → Act → World → Prop} (A2 : Option Addr) (c2 g6 c6 gv cv : Nat) (K xs : List Nat) (v0 : St) (wt w6 : World) (t0 t1 t2 t3 t4 t5 t6 t7 t8 t9 t11 t12 t13 t15 t16 t17 t18 t19 t22 t23 t24 t25 t26 t27 t28 t29 t30 t31 t32 t33 t34 t35 t36 t37 t38 t39 t40 t41 t42 t43 t44 t45 t46 t47 t48 t49 t50 t51 t52 t53 t54 t55 t56 t57 t58 t59 t60 t61 t62 t63 t64 t65 t66 t67 t68 t69 t70 t71 t72 t73 t74 t75 t76 t77 t78 t79 t80 t81 t82 t83 t84 t85 t86 t87 t88 t89 t90 t91 t92 t93 t94 t95 t96 t97 t98 t99 t100 t101 t102 t103 t104 t105 t106 t107 t108 t109 t110 t111 t112 t113 t114 t115 t116 t117 t118 t119 t120 t121 t122 t123 t124 t125 t126 t127 t128 t129 t130 t131 t132 t133 t134 t135 t136 t137 t138 t139 t140 t141 t142 t143 t144 t145 t146 t147 t148 t149 t150 t151 t152 t153 t154 t155 t156 t157 t158 t159 t160 t161 t162 t163 t164 t165 t166 t167 t168 t169 t170 t171 t172 t173 t174 t175 t176 t177 t178 t179 t180 t181 t182 t183 t184 t185 t186 t187 t188 t189 t190 t191 t192 t193 t194 t195 t196 t197 t198 t199 t200 t201 t202 t203 t204 t205 t206 t207 t208 t209 t210 t211 t212 t213 t214 t215 t216 t217 t218 t219 t220 t221 t222 t223 t224 t225 t226 t227 t228 t229 t230 t231 t232 t233 t234 t235 t236 t237 t238 t239 t240 t241 t242 t243 t244 t245 t246 t247 t248 t249 t250 t251 t252 t253 t254 t255 t256 t257 t258 t259 t260 t261 t262 t263 t264 t265 t266 t267 t268 t269 t270 t271 t272 t273 t274 t275 t276 t277 t278 t279 t280 t281 t282 t283 t284 t285 t286 t287 t288 t289 t290 t291 t292 t293 t294 t295 t296 t297 t298 t299 t300 t301 t302 t303 t304 t305 t306 t307 t308 t309 t310 t311 t312 t313 t314 t315 t316 t317 t318 t319 t320 t321 t322 t323 t324 t325 t326 t327 t328 t329 t330 t331 t332 t333 t334 t335 t336 t337 t338 t339 t340 t341 t342 t343 t344 t345 t346 t347 t348 t349 t350 t351 t352 t353 : Value)
    (hxl : xs.length = 80) (hKl : K.length = 80) (hvo : v0.okL) (hKm : ∀ k, K.getD k 0 < 18446744073709551616) (hXm : ∀ k, xs.getD k 0 < 18446744073709551616)
    (hcv : 8 ≤ cv) (hcv2 : cv ≤ 9223372036854775807) (hru : RowU w6 gv v0.list) (hgv : wt.heap.size ≤ gv) (hb : Below wt.heap.size wt w6)
    (hks : Sq wt wt.heap.size A2 c2 (uvs K)) (hxs : Lie wt wt.heap.size (some ⟨g6, 0, none⟩) (uvs xs)) (hc6 : 80 ≤ c6)
    (hexit : ∀ (gq cq : Nat) (w' : World) (u21 u22 u23 u24 u25 u26 u27 u28 u185 u186 u187 u188 u189 u190 u191 u192 u193 u194 u195 u196 u197 u198 u199 u200 u201 u202 u203 u204 u205 u206 u207 u208 u209 u210 u211 u212 u213 u214 u215 u216 u217 u218 u219 u220 u221 u222 u223 u224 u225 u226 u227 u228 u229 u230 u231 u232 u233 u234 u235 u236 u237 u238 u239 u240 u241 u242 u243 u244 u245 u246 u247 u248 u249 u250 u251 u252 u253 u254 u255 u256 u257 u258 u259 u260 u261 u262 u263 u264 u265 u266 u267 u268 u269 u270 u271 u272 u273 u274 u275 u276 u277 u278 u279 u280 u281 u282 u283 u284 u285 u286 u287 u288 u289 u290 u291 u292 u293 u294 u295 u296 u297 u298 u299 u300 u301 u302 u303 u304 u305 u306 u307 u308 u309 u310 u311 u312 : Value), RowU w' gq (rndL K xs v0 80).list → wt.heap.size ≤ gq → 8 ≤ cq → cq ≤ 9223372036854775807 → Below wt.heap.size wt w' → Q (.exit 16) ⟨(t0 :: t1 :: t2 :: t3 :: t4 :: t5 :: t6 :: t7 :: t8 :: t9 :: (.slice A2 80 c2) :: t11 :: t12 :: t13 :: (.slice (some ⟨g6, 0, none⟩) 80 c6) :: t15 :: t16 :: t17 :: t18 :: t19 :: (.slice (some ⟨gq, 0, none⟩) 8 cq) :: u21 :: u22 :: u23 :: u24 :: u25 :: u26 :: u27 :: u28 :: t29 :: t30 :: t31 :: t32 :: t33 :: t34 :: t35 :: t36 :: t37 :: t38 :: t39 :: t40 :: t41 :: t42 :: t43 :: t44 :: t45 :: t46 :: t47 :: t48 :: t49 :: t50 :: t51 :: t52 :: t53 :: t54 :: t55 :: t56 :: t57 :: t58 :: t59 :: t60 :: t61 :: t62 :: t63 :: t64 :: t65 :: t66 :: t67 :: t68 :: t69 :: t70 :: t71 :: t72 :: t73 :: t74 :: t75 :: t76 :: t77 :: t78 :: t79 :: t80 :: t81 :: t82 :: t83 :: t84 :: t85 :: t86 :: t87 :: t88 :: t89 :: t90 :: t91 :: t92 :: t93 :: t94 :: t95 :: t96 :: t97 :: t98 :: t99 :: t100 :: t101 :: t102 :: t103 :: t104 :: t105 :: t106 :: t107 :: t108 :: t109 :: t110 :: t111 :: t112 :: t113 :: t114 :: t115 :: t116 :: t117 :: t118 :: t119 :: t120 :: t121 :: t122 :: t123 :: t124 :: t125 :: t126 :: t127 :: t128 :: t129 :: t130 :: t131 :: t132 :: t133 :: t134 :: t135 :: t136 :: t137 :: t138 :: t139 :: t140 :: t141 :: t142 :: t143 :: t144 :: t145 :: t146 :: t147 :: t148 :: t149 :: t150 :: t151 :: t152 :: t153 :: t154 :: t155 :: t156 :: t157 :: t158 :: t159 :: t160 :: t161 :: t162 :: t163 :: t164 :: t165 :: t166 :: t167 :: t168 :: t169 :: t170 :: t171 :: t172 :: t173 :: t174 :: t175 :: t176 :: t177 :: t178 :: t179 :: t180 :: t181 :: t182 :: t183 :: t184 :: u185 :: u186 :: u187 :: u188 :: u189 :: u190 :: u191 :: u192 :: u193 :: u194 :: u195 :: u196 :: u197 :: u198 :: u199 :: u200 :: u201 :: u202 :: u203 :: u204 :: u205 :: u206 :: u207 :: u208 :: u209 :: u210 :: u211 :: u212 :: u213 :: u214 :: u215 :: u216 :: u217 :: u218 :: u219 :: u220 :: u221 :: u222 :: u223 :: u224 :: u225 :: u226 :: u227 :: u228 :: u229 :: u230 :: u231 :: u232 :: u233 :: u234 :: u235 :: u236 :: u237 :: u238 :: u239 :: u240 :: u241 :: u242 :: u243 :: u244 :: u245 :: u246 :: u247 :: u248 :: u249 :: u250 :: u251 :: u252 :: u253 :: u254 :: u255 :: u256 :: u257 :: u258 :: u259 :: u260 :: u261 :: u262 :: u263 :: u264 :: u265 :: u266 :: u267 :: u268 :: u269 :: u270 :: u271 :: u272 :: u273 :: u274 :: u275 :: u276 :: u277 :: u278 :: u279 :: u280 :: u281 :: u282 :: u283 :: u284 :: u285 :: u286 :: u287 :: u288 :: u289 :: u290 :: u291 :: u292 :: u293 :: u294 :: u295 :: u296 :: u297 :: u298 :: u299 :: u300 :: u301 :: u302 :: u303 :: u304 :: u305 :: u306 :: u307 :: u308 :: u309 :: u310 :: u311 :: u312 :: t313 :: t314 :: t315 :: t316 :: t317 :: t318 :: t319 :: t320 :: t321 :: t322 :: t323 :: t324 :: t325 :: t326 :: t327 :: t328 :: t329 :: t330 :: t331 :: t332 :: t333 :: t334 :: t335 :: t336 :: t337 :: t338 :: t339 :: t340 :: t341 :: t342 :: t343 :: t344 :: t345 :: t346 :: t347 :: t348 :: t349 :: t350 :: t351 :: t352 :: t353 :: []).toArray, []⟩ w') :
    Code.wp Tryd.prog (Code.loop (loopN Tryd.f17 8)) Q ⟨(t0 :: t1 :: t2 :: t3 :: t4 :: t5 :: t6 :: t7 :: t8 :: t9 :: (.slice A2 80 c2) :: t11 :: t12 :: t13 :: (.slice (some ⟨g6, 0, none⟩) 80 c6) :: t15 :: t16 :: t17 :: t18 :: t19 :: (.slice (some ⟨gv, 0, none⟩) 8 cv) :: (.int .i64 0) :: t22 :: t23 :: t24 :: t25 :: t26 :: t27 :: t28 :: t29 :: t30 :: t31 :: t32 :: t33 :: t34 :: t35 :: t36 :: t37 :: t38 :: t39 :: t40 :: t41 :: t42 :: t43 :: t44 :: t45 :: t46 :: t47 :: t48 :: t49 :: t50 :: t51 :: t52 :: t53 :: t54 :: t55 :: t56 :: t57 :: t58 :: t59 :: t60 :: t61 :: t62 :: t63 :: t64 :: t65 :: t66 :: t67 :: t68 :: t69 :: t70 :: t71 :: t72 :: t73 :: t74 :: t75 :: t76 :: t77 :: t78 :: t79 :: t80 :: t81 :: t82 :: t83 :: t84 :: t85 :: t86 :: t87 :: t88 :: t89 :: t90 :: t91 :: t92 :: t93 :: t94 :: t95 :: t96 :: t97 :: t98 :: t99 :: t100 :: t101 :: t102 :: t103 :: t104 :: t105 :: t106 :: t107 :: t108 :: t109 :: t110 :: t111 :: t112 :: t113 :: t114 :: t115 :: t116 :: t117 :: t118 :: t119 :: t120 :: t121 :: t122 :: t123 :: t124 :: t125 :: t126 :: t127 :: t128 :: t129 :: t130 :: t131 :: t132 :: t133 :: t134 :: t135 :: t136 :: t137 :: t138 :: t139 :: t140 :: t141 :: t142 :: t143 :: t144 :: t145 :: t146 :: t147 :: t148 :: t149 :: t150 :: t151 :: t152 :: t153 :: t154 :: t155 :: t156 :: t157 :: t158 :: t159 :: t160 :: t161 :: t162 :: t163 :: t164 :: t165 :: t166 :: t167 :: t168 :: t169 :: t170 :: t171 :: t172 :: t173 :: t174 :: t175 :: t176 :: t177 :: t178 :: t179 :: t180 :: t181 :: t182 :: t183 :: t184 :: t185 :: t186 :: t187 :: t188 :: t189 :: t190 :: t191 :: t192 :: t193 :: t194 :: t195 :: t196 :: t197 :: t198 :: t199 :: t200 :: t201 :: t202 :: t203 :: t204 :: t205 :: t206 :: t207 :: t208 :: t209 :: t210 :: t211 :: t212 :: t213 :: t214 :: t215 :: t216 :: t217 :: t218 :: t219 :: t220 :: t221 :: t222 :: t223 :: t224 :: t225 :: t226 :: t227 :: t228 :: t229 :: t230 :: t231 :: t232 :: t233 :: t234 :: t235 :: t236 :: t237 :: t238 :: t239 :: t240 :: t241 :: t242 :: t243 :: t244 :: t245 :: t246 :: t247 :: t248 :: t249 :: t250 :: t251 :: t252 :: t253 :: t254 :: t255 :: t256 :: t257 :: t258 :: t259 :: t260 :: t261 :: t262 :: t263 :: t264 :: t265 :: t266 :: t267 :: t268 :: t269 :: t270 :: t271 :: t272 :: t273 :: t274 :: t275 :: t276 :: t277 :: t278 :: t279 :: t280 :: t281 :: t282 :: t283 :: t284 :: t285 :: t286 :: t287 :: t288 :: t289 :: t290 :: t291 :: t292 :: t293 :: t294 :: t295 :: t296 :: t297 :: t298 :: t299 :: t300 :: t301 :: t302 :: t303 :: t304 :: t305 :: t306 :: t307 :: t308 :: t309 :: t310 :: t311 :: t312 :: t313 :: t314 :: t315 :: t316 :: t317 :: t318 :: t319 :: t320 :: t321 :: t322 :: t323 :: t324 :: t325 :: t326 :: t327 :: t328 :: t329 :: t330 :: t331 :: t332 :: t333 :: t334 :: t335 :: t336 :: t337 :: t338 :: t339 :: t340 :: t341 :: t342 :: t343 :: t344 :: t345 :: t346 :: t347 :: t348 :: t349 :: t350 :: t351 :: t352 :: t353 :: []).toArray, []⟩ w6 := by
  conv => arg 2; arg 1; whnf
  have HXL := hid hxl; have HKL := hid hKl; have HVO := hid hvo; have HKM := hid hKm; have HXM := hid hXm; have HKS := hid hks; have HXS := hid hxs
  clear hxl hKl hvo hKm hXm hks hxs
  go_loopg [20, 21] 80 (fun g u i wr => ∃ (q gq cq : Nat), q + g = 80 ∧ i = .int .i64 (q : Int) ∧ u = .slice (some ⟨gq, 0, none⟩) 8 cq ∧ RowU wr gq (rndL K xs v0 q).list ∧ wt.heap.size ≤ gq ∧ 8 ≤ cq ∧ cq ≤ 9223372036854775807 ∧ Below wt.heap.size wt wr)
  case atStart => exact ⟨0, gv, cv, rfl, rfl, rfl, hru, hgv, hcv, hcv2, hb⟩
  case round =>
    clear hru hgv hb
    obtain ⟨q, gq, cq, hq, rfl, rfl, hru, hgq, hcq1, hcq2, hb⟩ := hrel
    obtain ⟨wq, rfl⟩ : ∃ wq : World, wq = wr := ⟨_, rfl⟩
    obtain ⟨v, hv⟩ : ∃ v, v = rndL K xs v0 q := ⟨_, rfl⟩
    rw [← hv] at hru
    have hvk : v.okL := by rw [hv]; exact rndL_ok _ _ _ HVO.out _
    obtain ⟨va, vb, vc, vd, ve, vf, vg, vh⟩ := v
    obtain ⟨h1, h2, h3, h4, h5, h6, h7, h8⟩ := hvk
    simp only at h1 h2 h3 h4 h5 h6 h7 h8
    have hc0 : wq.cell? ⟨gq, 0, none⟩ = some (.int .u64 (va : Int)) := hru.cell rfl
    have hc1 : wq.cell? ⟨gq, 1, none⟩ = some (.int .u64 (vb : Int)) := hru.cell rfl
    have hc2 : wq.cell? ⟨gq, 2, none⟩ = some (.int .u64 (vc : Int)) := hru.cell rfl
    have hc3 : wq.cell? ⟨gq, 3, none⟩ = some (.int .u64 (vd : Int)) := hru.cell rfl
    have hc4 : wq.cell? ⟨gq, 4, none⟩ = some (.int .u64 (ve : Int)) := hru.cell rfl
    have hc5 : wq.cell? ⟨gq, 5, none⟩ = some (.int .u64 (vf : Int)) := hru.cell rfl
    have hc6' : wq.cell? ⟨gq, 6, none⟩ = some (.int .u64 (vg : Int)) := hru.cell rfl
    have hc7 : wq.cell? ⟨gq, 7, none⟩ = some (.int .u64 (vh : Int)) := hru.cell rfl
    have HV := hid hv; have HQ := hid hq; have HRU := hid hru; have HB := hid hb
    have hq64 : q ≤ 80 := by omega
    clear hv hq hru hb
    by_cases hqq : q < 80
    · have hqi : (q : Int) < 80 := by omega
      have hq0 : (0 : Int) ≤ (q : Int) := by omega
      clear hexit
      have H0 := hid hc0; have H1 := hid hc1; have H2 := hid hc2; have H3 := hid hc3; have H4 := hid hc4; have H5 := hid hc5; have H6 := hid hc6'; have H7 := hid hc7
      clear hc0 hc1 hc2 hc3 hc4 hc5 hc6' hc7
      go_wp2
      refine bits3_loop gq cq va vb vc ve vf vg wq _ _ _ _ _ _ _ _ _ _ _ _ _ _ _ _ _ _ _ _ _ _ _ _ _ _ _ _ _ _ _ _ _ _ _ _ _ _ _ _ _ _ _ _ _ _ _ _ _ _ _ _ _ _ _ _ _ _ _ _ _ _ _ _ _ _ _ _ _ _ _ _ _ _ _ _ _ _ _ _ _ _ _ _ _ _ _ _ _ _ _ _ _ _ _ _ _ _ _ _ _ _ _ _ _ _ _ _ _ _ _ _ _ _ _ _ _ _ _ _ _ _ _ _ _ _ _ _ _ _ _ _ _ _ _ _ _ _ _ _ _ _ _ _ _ _ _ _ _ _ _ _ _ _ _ _ _ _ _ _ _ _ _ _ _ _ _ _ _ _ _ _ _ _ _ _ _ _ _ _ _ _ _ _ _ _ _ _ _ _ _ _ _ _ _ _ _ _ _ _ _ _ _ _ _ _ _ _ _ _ _ _ _ _ _ _ _ _ _ _ _ _ _ _ _ _ _ _ _ _ _ _ _ _ _ _ _ _ _ _ _ _ _ _ _ _ _ _ _ _ _ _ _ _ _ _ _ _ _ _ _ _ _ _ _ _ _ _ _ _ _ _ _ _ _ _ _ _ _ _ _ _ _ _ _ _ _ _ _ _ _ _ _ _ _ _ _ _ _ _ _ _ _ _ _ _ _ _ _ _ _ _ _ _ _ _ _ _ _ _ _ _ _ _ _ _ _ _ _ _ _ _ _ _ _ _ _ _ _ _ _ _ _ _ _ _ _ _ _ hcq1 h1 h2 h3 h5 h6 h7 H0.out H1.out H2.out H4.out H5.out H6.out ?_
      intro n u24 u25 u26 u189 u190 u191 u192 u193 u194 u195 u196 u197 u198 u199 u200 u201 u202 u203 u204 u205 u206 u207 u208 u209 u210 u211 u212 u213 u214 u215 u216 u217 u218 u219 u220 u221 u222 u223 u224 u225 u226 u227 u228 u229 u230 u231 u232 u233 u234 u235 u236 u237 u238 u239
      obtain ⟨kq, hkq⟩ : ∃ k, k = K.getD q 0 := ⟨_, rfl⟩
      obtain ⟨xq, hxq⟩ : ∃ k, k = xs.getD q 0 := ⟨_, rfl⟩
      have hkql : kq < 18446744073709551616 := by rw [hkq]; exact HKM.out q
      have hxql : xq < 18446744073709551616 := by rw [hxq]; exact HXM.out q
      obtain ⟨w7, hw7⟩ : ∃ w7, w7 = wq.drewN n := ⟨_, rfl⟩
      have hc0 : w7.cell? ⟨gq, 0, none⟩ = some (.int .u64 (va : Int)) := by rw [hw7]; exact H0.out
      have hc3 : w7.cell? ⟨gq, 3, none⟩ = some (.int .u64 (vd : Int)) := by rw [hw7]; exact H3.out
      have hc4 : w7.cell? ⟨gq, 4, none⟩ = some (.int .u64 (ve : Int)) := by rw [hw7]; exact H4.out
      have hc7 : w7.cell? ⟨gq, 7, none⟩ = some (.int .u64 (vh : Int)) := by rw [hw7]; exact H7.out
      have hB7 : Below wt.heap.size wt w7 := by rw [hw7]; exact below_drewN HB.out n
      obtain ⟨bk, ok, rfl, hbk, hck⟩ := uvs_get (HKS.out.below hB7) (k := q) (by rw [HKL.out]; exact hqq)
      rw [← hkq] at hck
      have hcx : w7.cell? ⟨g6, q, none⟩ = some (.int .u64 (xq : Int)) := by
        have h := word_cell (HXS.out.below hB7) (k := q) (by rw [HXL.out]; exact hqq)
        rw [Nat.zero_add, ← hxq] at h; exact h
      rw [← hw7]
      have HB7 := hid hB7; have HW7 := hid hw7; have HKQ := hid hkq; have HXQ := hid hxq
      clear hw7 hB7 hkq hxq
      obtain ⟨ch, hch⟩ : ∃ c, c = chL ve vf vg := ⟨_, rfl⟩
      obtain ⟨mj, hmj⟩ : ∃ c, c = majL va vb vc := ⟨_, rfl⟩
      have hchl : ch < 18446744073709551616 := by rw [hch]; exact chL_lt _ _ _ h5 h6 h7
      have hmjl : mj < 18446744073709551616 := by rw [hmj]; exact majL_lt _ _ _ h2 h3
      rw [← hch, ← hmj]
      obtain ⟨x6, hx6⟩ : ∃ a, a = rotrL ve 14 := ⟨_, rfl⟩
      obtain ⟨x11, hx11⟩ : ∃ a, a = rotrL ve 18 := ⟨_, rfl⟩
      obtain ⟨x25, hx25⟩ : ∃ a, a = rotrL ve 41 := ⟨_, rfl⟩
      obtain ⟨y2, hy2⟩ : ∃ a, a = rotrL va 28 := ⟨_, rfl⟩
      obtain ⟨y13, hy13⟩ : ∃ a, a = rotrL va 34 := ⟨_, rfl⟩
      obtain ⟨y22, hy22⟩ : ∃ a, a = rotrL va 39 := ⟨_, rfl⟩
      have HT6 := hid (turn3_l ve 14 14 x6 h5 (by omega) rfl hx6)
      have HT11 := hid (turn3_l ve 18 18 x11 h5 (by omega) rfl hx11)
      have HT25 := hid (turn3_l ve 41 41 x25 h5 (by omega) rfl hx25)
      have HT2 := hid (turn3_l va 28 28 y2 h1 (by omega) rfl hy2)
      have HT13 := hid (turn3_l va 34 34 y13 h1 (by omega) rfl hy13)
      have HT22 := hid (turn3_l va 39 39 y22 h1 (by omega) rfl hy22)
      obtain ⟨a1, ha1⟩ : ∃ a, a = S1L ve := ⟨_, rfl⟩
      obtain ⟨a0, ha0⟩ : ∃ a, a = S0L va := ⟨_, rfl⟩
      have ha1l : a1 < 18446744073709551616 := by rw [ha1]; exact S1L_lt ve h5
      have ha0l : a0 < 18446744073709551616 := by rw [ha0]; exact S0L_lt va h1
      have e1 : bits .xor .u64 (bits .xor .u64 (x6 : Int) (x11 : Int)) (x25 : Int) = (a1 : Int) := by
        rw [xor3L_u64 _ _ _ (by rw [hx6]; exact rotrL_lt ve 14 h5 (by omega)) (by rw [hx11]; exact rotrL_lt ve 18 h5 (by omega)) (by rw [hx25]; exact rotrL_lt ve 41 h5 (by omega)), ha1, hx6, hx11, hx25]; rfl
      have e0 : bits .xor .u64 (bits .xor .u64 (y2 : Int) (y13 : Int)) (y22 : Int) = (a0 : Int) := by
        rw [xor3L_u64 _ _ _ (by rw [hy2]; exact rotrL_lt va 28 h1 (by omega)) (by rw [hy13]; exact rotrL_lt va 34 h1 (by omega)) (by rw [hy22]; exact rotrL_lt va 39 h1 (by omega)), ha0, hy2, hy13, hy22]; rfl
      obtain ⟨u1, hu1⟩ : ∃ u, u = (vh + a1) % 18446744073709551616 := ⟨_, rfl⟩
      obtain ⟨u2, hu2⟩ : ∃ u, u = (u1 + ch) % 18446744073709551616 := ⟨_, rfl⟩
      obtain ⟨u3, hu3⟩ : ∃ u, u = (u2 + kq) % 18446744073709551616 := ⟨_, rfl⟩
      obtain ⟨u4, hu4⟩ : ∃ u, u = (u3 + xq) % 18446744073709551616 := ⟨_, rfl⟩
      obtain ⟨z2, hz2⟩ : ∃ u, u = (a0 + mj) % 18446744073709551616 := ⟨_, rfl⟩
      obtain ⟨u5, hu5⟩ : ∃ u, u = (u4 + z2) % 18446744073709551616 := ⟨_, rfl⟩
      obtain ⟨u6, hu6⟩ : ∃ u, u = (vd + u4) % 18446744073709551616 := ⟨_, rfl⟩
      have f1 : IntKind.u64.wrap ((vh : Int) + (a1 : Int)) = (u1 : Int) := addL_u64 _ _ _ hu1
      have f2 : IntKind.u64.wrap ((u1 : Int) + (ch : Int)) = (u2 : Int) := addL_u64 _ _ _ hu2
      have f3 : IntKind.u64.wrap ((u2 : Int) + (kq : Int)) = (u3 : Int) := addL_u64 _ _ _ hu3
      have f4 : IntKind.u64.wrap ((u3 : Int) + (xq : Int)) = (u4 : Int) := addL_u64 _ _ _ hu4
      have f5 : IntKind.u64.wrap ((a0 : Int) + (mj : Int)) = (z2 : Int) := addL_u64 _ _ _ hz2
      have f6 : IntKind.u64.wrap ((u4 : Int) + (z2 : Int)) = (u5 : Int) := addL_u64 _ _ _ hu5
      have f7 : IntKind.u64.wrap ((vd : Int) + (u4 : Int)) = (u6 : Int) := addL_u64 _ _ _ hu6
      have hnext : (⟨u5, va, vb, vc, u6, ve, vf, vg⟩ : St) = rndL K xs v0 (q + 1) := by
        rw [rndL, ← HV.out, St.stepL, t1L, t2L, ← HKQ.out, ← HXQ.out]
        have g1 : u5 = (vh + a1 + ch + kq + xq + (a0 + mj)) % 18446744073709551616 := by omega
        have g2 : u6 = (vd + (vh + a1 + ch + kq + xq)) % 18446744073709551616 := by omega
        rw [g1, g2]
        simp only [ha0, ha1, hch, hmj]
      have HNEXT := hid hnext
      clear hx6 hx11 hx25 hy2 hy13 hy22 ha1 ha0 hu1 hu2 hu3 hu4 hz2 hu5 hu6 hnext hch hmj h1 h2 h3 h4 h5 h6 h7 h8 ha1l ha0l hchl hmjl hkql hxql
      have q1 : (q : Int) < ((80 : Nat) : Int) := by omega
      go_wp2
      go_quiet ((go_at_call 35; first | with_reducible exact HT6.out _ _ | with_reducible exact HT11.out _ _ | with_reducible exact HT25.out _ _))
      clear HT6 HT11 HT25 f1 f2 f3 f4 e1 hck hcx
      obtain ⟨wa, hwa⟩ : ∃ wa : World, wa = w7.drewN nq := ⟨_, rfl⟩
      replace hc0 : wa.cell? ⟨gq, 0, none⟩ = some (.int .u64 (va : Int)) := by rw [hwa]; exact hc0
      have HBA : Hid (Below wt.heap.size wt wa) := hid (by rw [hwa]; exact below_drewN HB7.out nq)
      have HRA : Hid (RowU wa gq (St.list ⟨va, vb, vc, vd, ve, vf, vg, vh⟩)) := hid (HRU.out.keep (by rw [hwa, HW7.out]; rfl))
      rw [← hwa]
      clear hwa hc3 hc4 hc7 HW7 HB7
      go_wp2
      go_quiet ((go_at_call 35; first | with_reducible exact HT2.out _ _ | with_reducible exact HT13.out _ _ | with_reducible exact HT22.out _ _))
      clear HT2 HT13 HT22 f5 e0 hc0
      obtain ⟨wc, hwc⟩ : ∃ wc : World, wc = wa.drewN nq := ⟨_, rfl⟩
      have HBC : Hid (Below wt.heap.size wt wc) := hid (by rw [hwc]; exact below_drewN HBA.out nq)
      have HRC : Hid (RowU wc gq (St.list ⟨va, vb, vc, vd, ve, vf, vg, vh⟩)) := hid (HRA.out.keep (by rw [hwc]; rfl))
      rw [← hwc]
      clear hwc HBA HRA
      have hd0 : wc.cell? ⟨gq, 0, none⟩ = some (.int .u64 (va : Int)) := HRC.out.cell rfl
      have hd1 : wc.cell? ⟨gq, 1, none⟩ = some (.int .u64 (vb : Int)) := HRC.out.cell rfl
      have hd2 : wc.cell? ⟨gq, 2, none⟩ = some (.int .u64 (vc : Int)) := HRC.out.cell rfl
      have hd3 : wc.cell? ⟨gq, 3, none⟩ = some (.int .u64 (vd : Int)) := HRC.out.cell rfl
      have hd4 : wc.cell? ⟨gq, 4, none⟩ = some (.int .u64 (ve : Int)) := HRC.out.cell rfl
      have hd5 : wc.cell? ⟨gq, 5, none⟩ = some (.int .u64 (vf : Int)) := HRC.out.cell rfl
      have hd6 : wc.cell? ⟨gq, 6, none⟩ = some (.int .u64 (vg : Int)) := HRC.out.cell rfl
      go_wp2
      refine wp_region_quiet_tail 26 (by kernel_rfl) (by kernel_rfl) ?_
      simp only [List.take_succ_cons, List.take_zero, List.drop_succ_cons, List.drop_zero]
      repeat (quiet_step (fail))
      refine wpQuiet_nil ?_
      rintro _ ⟨ne, rfl⟩
      clear hd0 hd1 hd2 hd3 hd4 hd5 hd6 f6 f7 
      obtain ⟨we, hwe⟩ : ∃ we : World, we = wc.drewN ne := ⟨_, rfl⟩
      have HBE : Hid (Below wt.heap.size wt we) := hid (by rw [hwe]; exact below_drewN HBC.out ne)
      rw [← hwe]
      clear hwe HBC HRC
      go_wp2
      have hq := HQ.out
      go_roundg (80 - q - 1)
      case measure => omega
      case rel =>
        refine ⟨q + 1, we.heap.size, 8, by omega, by go_num, rfl, ?_, HBE.out.size, by omega, by omega, HBE.out.alloc HBE.out.size _⟩
        rw [← HNEXT.out]
        exact ⟨(uvs (St.list ⟨u5, va, vb, vc, u6, ve, vf, vg⟩)).toArray, heap_alloc_new _ _, fun j x hx => by
          rw [List.getElem?_toArray, uvs, List.getElem?_map, hx]; rfl⟩
    · obtain rfl : q = 80 := by omega
      have hqi : ¬ ((80 : Nat) : Int) < 80 := by omega
      have hru := HRU.out
      rw [HV.out] at hru
      have HRU' := hid hru
      clear hru hc0 hc1 hc2 hc3 hc4 hc5 hc6' hc7
      go_wp2
      exact hexit gq cq wq _ _ _ _ _ _ _ _ _ _ _ _ _ _ _ _ _ _ _ _ _ _ _ _ _ _ _ _ _ _ _ _ _ _ _ _ _ _ _ _ _ _ _ _ _ _ _ _ _ _ _ _ _ _ _ _ _ _ _ _ _ _ _ _ _ _ _ _ _ _ _ _ _ _ _ _ _ _ _ _ _ _ _ _ _ _ _ _ _ _ _ _ _ _ _ _ _ _ _ _ _ _ _ _ _ _ _ _ _ _ _ _ _ _ _ _ _ _ _ _ _ _ _ _ _ _ _ _ _ _ _ _ _ _ _ _ HRU'.out hgq hcq1 hcq2 HB.out
end Go.Proofs.YtokggppfobbblaaDoor
