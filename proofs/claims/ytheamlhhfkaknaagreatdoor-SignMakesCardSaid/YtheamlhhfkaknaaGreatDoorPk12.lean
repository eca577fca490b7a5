/-
  Texts of this claim in one file: Ref03h.
-/
import Derived.Test.YtheamlhhfkaknaaGreatDoorPk10
import Derived.Test.YtheamlhhfkaknaaGreatDoorPk2
section
namespace Go.Proofs.YtheamlhhfkaknaaGreatDoor
open Go.RowKit
set_option linter.unusedVariables false
set_option linter.unusedSimpArgs false
set_option maxRecDepth 100000 in
set_option maxHeartbeats 4000000 in
theorem blocks3_loop {Q : Exit → Act → World → Prop} (A2 : Option Addr) (c2 gh ch gm cm nb : Nat) (K : List Nat) (s : St8) (zs : List UInt8) (w0 : World) (t0 t1 t2 t4 t5 t6 t7 t8 t11 t12 t14 t15 t16 t17 t18 t19 t20 t21 t22 t23 t24 t25 t26 t27 t28 t29 t30 t31 t32 t33 t34 t35 t36 t37 t38 t39 t40 t41 t42 t43 t44 t45 t46 t47 t48 t49 t50 t51 t52 t53 t54 t55 t56 t57 t58 t59 t60 t61 t62 t63 t64 t65 t66 t67 t68 t69 t70 t71 t72 t73 t74 t75 t76 t77 t78 t79 t80 t81 t82 t83 t84 t85 t86 t87 t88 t89 t90 t91 t92 t93 t94 t95 t96 t97 t98 t99 t100 t101 t102 t103 t104 t105 t106 t107 t108 t109 t110 t111 t112 t113 t114 t115 t116 t117 t118 t119 t120 t121 t122 t123 t124 t125 t126 t127 t128 t129 t130 t131 t132 t133 t134 t135 t136 t137 t138 t139 t140 t141 t142 t143 t144 t145 t146 t147 t148 t149 t150 t151 t152 t153 t154 t155 t156 t157 t158 t159 t160 t161 t162 t163 t164 t165 t166 t167 t168 t169 t170 t171 t172 t173 t174 t175 t176 t177 t178 t179 t180 t181 t182 t183 t184 t185 t186 t187 t188 t189 t190 t191 t192 t193 t194 t195 t196 t197 t198 t199 t200 t201 t202 t203 t204 t205 t206 t207 t208 t209 t210 t211 t212 t213 t214 t215 t216 t217 t218 t219 t220 t221 t222 t223 t224 t225 t226 t227 t228 t229 t230 t231 t232 t233 t234 t235 t236 t237 t238 t239 t240 t241 t242 t243 t244 t245 t246 t247 t248 t249 t250 t251 t252 t253 t254 t255 t256 t257 t258 t259 t260 t261 t262 t263 t264 t265 t266 t267 t268 t269 t270 t271 t272 t273 t274 t275 t276 t277 t278 t279 t280 t281 t282 t283 t284 t285 t286 t287 t288 t289 t290 t291 t292 t293 t294 t295 t296 t297 t298 t299 t300 t301 t302 t303 t304 t305 t306 t307 t308 t309 t310 t311 t312 t313 t314 t315 t316 t317 t318 t319 t320 t321 t322 t323 t324 t325 t326 t327 t328 t329 t330 t331 t332 t333 t334 t335 t336 t337 t338 t339 t340 t341 t342 t343 t344 t345 t346 t347 t348 t349 t350 t351 t352 t353 : Value)
    (hpan : ∀ c (a : Act) (k : Tmp) (x : Value) (w : World), Q (.panic c) (a.put (some k) x) w → Q (.panic c) a w)
    (hs : s.okL) (hKl : K.length = 80) (hKm : ∀ k, K.getD k 0 < 18446744073709551616) (hnb : zs.length = 128 * nb) (hzs40 : zs.length < 1099511627900) (hzc : zs.length ≤ cm) (hch : 8 ≤ ch)
    (hne : gh ≠ gm) (hlt : Lie w0 w0.heap.size (some ⟨gm, 0, none⟩) (bvs zs)) (hks : Sq w0 w0.heap.size A2 c2 (uvs K)) (hnk : NotIn A2 (uvs K) gh) (hrs : RowU w0 gh s.list)
    (hexit : ∀ (w' : World) (u13 u14 u15 u16 u17 u18 u19 u20 u21 u22 u23 u24 u25 u26 u27 u28 u29 u94 u95 u96 u97 u98 u99 u100 u101 u102 u103 u104 u105 u106 u107 u108 u109 u110 u111 u112 u113 u114 u115 u116 u117 u118 u119 u120 u121 u122 u123 u124 u125 u126 u127 u128 u129 u130 u131 u132 u133 u134 u135 u136 u137 u138 u139 u140 u141 u142 u143 u144 u145 u146 u147 u148 u149 u150 u151 u152 u153 u154 u155 u156 u157 u158 u159 u160 u161 u162 u163 u164 u165 u166 u167 u168 u169 u170 u171 u172 u173 u174 u175 u176 u177 u178 u179 u180 u181 u182 u183 u184 u185 u186 u187 u188 u189 u190 u191 u192 u193 u194 u195 u196 u197 u198 u199 u200 u201 u202 u203 u204 u205 u206 u207 u208 u209 u210 u211 u212 u213 u214 u215 u216 u217 u218 u219 u220 u221 u222 u223 u224 u225 u226 u227 u228 u229 u230 u231 u232 u233 u234 u235 u236 u237 u238 u239 u240 u241 u242 u243 u244 u245 u246 u247 u248 u249 u250 u251 u252 u253 u254 u255 u256 u257 u258 u259 u260 u261 u262 u263 u264 u265 u266 u267 u268 u269 u270 u271 u272 u273 u274 u275 u276 u277 u278 u279 u280 u281 u282 u283 u284 u285 u286 u287 u288 u289 u290 u291 u292 u293 u294 u295 u296 u297 u298 u299 u300 u301 u302 u303 u304 u305 u306 u307 u308 u309 u310 u311 u312 u313 u314 u315 u316 u317 u318 u319 u320 u321 u322 u323 u324 u325 u326 u327 u328 : Value), RowU w' gh (blocksL K nb s zs).list → w0.grownBy w' (some gh) → Q (.exit 10) ⟨(t0 :: t1 :: t2 :: (.slice (some ⟨gm, 0, none⟩) zs.length cm) :: t4 :: t5 :: t6 :: t7 :: t8 :: (.slice (some ⟨gh, 0, none⟩) 8 ch) :: (.slice A2 80 c2) :: t11 :: t12 :: u13 :: u14 :: u15 :: u16 :: u17 :: u18 :: u19 :: u20 :: u21 :: u22 :: u23 :: u24 :: u25 :: u26 :: u27 :: u28 :: u29 :: t30 :: t31 :: t32 :: t33 :: t34 :: t35 :: t36 :: t37 :: t38 :: t39 :: t40 :: t41 :: t42 :: t43 :: t44 :: t45 :: t46 :: t47 :: t48 :: t49 :: t50 :: t51 :: t52 :: t53 :: t54 :: t55 :: t56 :: t57 :: t58 :: t59 :: t60 :: t61 :: t62 :: t63 :: t64 :: t65 :: t66 :: t67 :: t68 :: t69 :: t70 :: t71 :: t72 :: t73 :: t74 :: t75 :: t76 :: t77 :: t78 :: t79 :: t80 :: t81 :: t82 :: t83 :: t84 :: t85 :: t86 :: t87 :: t88 :: t89 :: t90 :: t91 :: t92 :: t93 :: u94 :: u95 :: u96 :: u97 :: u98 :: u99 :: u100 :: u101 :: u102 :: u103 :: u104 :: u105 :: u106 :: u107 :: u108 :: u109 :: u110 :: u111 :: u112 :: u113 :: u114 :: u115 :: u116 :: u117 :: u118 :: u119 :: u120 :: u121 :: u122 :: u123 :: u124 :: u125 :: u126 :: u127 :: u128 :: u129 :: u130 :: u131 :: u132 :: u133 :: u134 :: u135 :: u136 :: u137 :: u138 :: u139 :: u140 :: u141 :: u142 :: u143 :: u144 :: u145 :: u146 :: u147 :: u148 :: u149 :: u150 :: u151 :: u152 :: u153 :: u154 :: u155 :: u156 :: u157 :: u158 :: u159 :: u160 :: u161 :: u162 :: u163 :: u164 :: u165 :: u166 :: u167 :: u168 :: u169 :: u170 :: u171 :: u172 :: u173 :: u174 :: u175 :: u176 :: u177 :: u178 :: u179 :: u180 :: u181 :: u182 :: u183 :: u184 :: u185 :: u186 :: u187 :: u188 :: u189 :: u190 :: u191 :: u192 :: u193 :: u194 :: u195 :: u196 :: u197 :: u198 :: u199 :: u200 :: u201 :: u202 :: u203 :: u204 :: u205 :: u206 :: u207 :: u208 :: u209 :: u210 :: u211 :: u212 :: u213 :: u214 :: u215 :: u216 :: u217 :: u218 :: u219 :: u220 :: u221 :: u222 :: u223 :: u224 :: u225 :: u226 :: u227 :: u228 :: u229 :: u230 :: u231 :: u232 :: u233 :: u234 :: u235 :: u236 :: u237 :: u238 :: u239 :: u240 :: u241 :: u242 :: u243 :: u244 :: u245 :: u246 :: u247 :: u248 :: u249 :: u250 :: u251 :: u252 :: u253 :: u254 :: u255 :: u256 :: u257 :: u258 :: u259 :: u260 :: u261 :: u262 :: u263 :: u264 :: u265 :: u266 :: u267 :: u268 :: u269 :: u270 :: u271 :: u272 :: u273 :: u274 :: u275 :: u276 :: u277 :: u278 :: u279 :: u280 :: u281 :: u282 :: u283 :: u284 :: u285 :: u286 :: u287 :: u288 :: u289 :: u290 :: u291 :: u292 :: u293 :: u294 :: u295 :: u296 :: u297 :: u298 :: u299 :: u300 :: u301 :: u302 :: u303 :: u304 :: u305 :: u306 :: u307 :: u308 :: u309 :: u310 :: u311 :: u312 :: u313 :: u314 :: u315 :: u316 :: u317 :: u318 :: u319 :: u320 :: u321 :: u322 :: u323 :: u324 :: u325 :: u326 :: u327 :: u328 :: t329 :: t330 :: t331 :: t332 :: t333 :: t334 :: t335 :: t336 :: t337 :: t338 :: t339 :: t340 :: t341 :: t342 :: t343 :: t344 :: t345 :: t346 :: t347 :: t348 :: t349 :: t350 :: t351 :: t352 :: t353 :: []).toArray, []⟩ w') :
    Code.wp Tryz.prog (Code.loop (loopN Tryz.f33 5)) Q ⟨(t0 :: t1 :: t2 :: (.slice (some ⟨gm, 0, none⟩) zs.length cm) :: t4 :: t5 :: t6 :: t7 :: t8 :: (.slice (some ⟨gh, 0, none⟩) 8 ch) :: (.slice A2 80 c2) :: t11 :: t12 :: (.int .i64 0) :: t14 :: t15 :: t16 :: t17 :: t18 :: t19 :: t20 :: t21 :: t22 :: t23 :: t24 :: t25 :: t26 :: t27 :: t28 :: t29 :: t30 :: t31 :: t32 :: t33 :: t34 :: t35 :: t36 :: t37 :: t38 :: t39 :: t40 :: t41 :: t42 :: t43 :: t44 :: t45 :: t46 :: t47 :: t48 :: t49 :: t50 :: t51 :: t52 :: t53 :: t54 :: t55 :: t56 :: t57 :: t58 :: t59 :: t60 :: t61 :: t62 :: t63 :: t64 :: t65 :: t66 :: t67 :: t68 :: t69 :: t70 :: t71 :: t72 :: t73 :: t74 :: t75 :: t76 :: t77 :: t78 :: t79 :: t80 :: t81 :: t82 :: t83 :: t84 :: t85 :: t86 :: t87 :: t88 :: t89 :: t90 :: t91 :: t92 :: t93 :: t94 :: t95 :: t96 :: t97 :: t98 :: t99 :: t100 :: t101 :: t102 :: t103 :: t104 :: t105 :: t106 :: t107 :: t108 :: t109 :: t110 :: t111 :: t112 :: t113 :: t114 :: t115 :: t116 :: t117 :: t118 :: t119 :: t120 :: t121 :: t122 :: t123 :: t124 :: t125 :: t126 :: t127 :: t128 :: t129 :: t130 :: t131 :: t132 :: t133 :: t134 :: t135 :: t136 :: t137 :: t138 :: t139 :: t140 :: t141 :: t142 :: t143 :: t144 :: t145 :: t146 :: t147 :: t148 :: t149 :: t150 :: t151 :: t152 :: t153 :: t154 :: t155 :: t156 :: t157 :: t158 :: t159 :: t160 :: t161 :: t162 :: t163 :: t164 :: t165 :: t166 :: t167 :: t168 :: t169 :: t170 :: t171 :: t172 :: t173 :: t174 :: t175 :: t176 :: t177 :: t178 :: t179 :: t180 :: t181 :: t182 :: t183 :: t184 :: t185 :: t186 :: t187 :: t188 :: t189 :: t190 :: t191 :: t192 :: t193 :: t194 :: t195 :: t196 :: t197 :: t198 :: t199 :: t200 :: t201 :: t202 :: t203 :: t204 :: t205 :: t206 :: t207 :: t208 :: t209 :: t210 :: t211 :: t212 :: t213 :: t214 :: t215 :: t216 :: t217 :: t218 :: t219 :: t220 :: t221 :: t222 :: t223 :: t224 :: t225 :: t226 :: t227 :: t228 :: t229 :: t230 :: t231 :: t232 :: t233 :: t234 :: t235 :: t236 :: t237 :: t238 :: t239 :: t240 :: t241 :: t242 :: t243 :: t244 :: t245 :: t246 :: t247 :: t248 :: t249 :: t250 :: t251 :: t252 :: t253 :: t254 :: t255 :: t256 :: t257 :: t258 :: t259 :: t260 :: t261 :: t262 :: t263 :: t264 :: t265 :: t266 :: t267 :: t268 :: t269 :: t270 :: t271 :: t272 :: t273 :: t274 :: t275 :: t276 :: t277 :: t278 :: t279 :: t280 :: t281 :: t282 :: t283 :: t284 :: t285 :: t286 :: t287 :: t288 :: t289 :: t290 :: t291 :: t292 :: t293 :: t294 :: t295 :: t296 :: t297 :: t298 :: t299 :: t300 :: t301 :: t302 :: t303 :: t304 :: t305 :: t306 :: t307 :: t308 :: t309 :: t310 :: t311 :: t312 :: t313 :: t314 :: t315 :: t316 :: t317 :: t318 :: t319 :: t320 :: t321 :: t322 :: t323 :: t324 :: t325 :: t326 :: t327 :: t328 :: t329 :: t330 :: t331 :: t332 :: t333 :: t334 :: t335 :: t336 :: t337 :: t338 :: t339 :: t340 :: t341 :: t342 :: t343 :: t344 :: t345 :: t346 :: t347 :: t348 :: t349 :: t350 :: t351 :: t352 :: t353 :: []).toArray, []⟩ w0 := by
  conv => arg 2; arg 1; whnf
  have HS := hid hs; have HKL := hid hKl; have HKM := hid hKm; have HNB := hid hnb; have HLT := hid hlt; have HKS := hid hks; have HNK := hid hnk; have HRS := hid hrs
  have hghl : gh < w0.heap.size := hrs.lt
  clear hs hKl hKm hnb hlt hks hnk hrs
  go_loopg [13] nb (fun g u wr => ∃ j : Nat, j + g = nb ∧ u = .int .i64 (128 * (j : Int)) ∧ RowU wr gh (blocksL K j s zs).list ∧ w0.grownBy wr (some gh))
  case atStart => exact ⟨0, by omega, rfl, HRS.out, World.grownBy.refl _ _⟩
  case round =>
    clear HRS
    obtain ⟨j, hj, rfl, hru, hg⟩ := hrel
    obtain ⟨wb, rfl⟩ : ∃ wb : World, wb = wr := ⟨_, rfl⟩
    have hszb : w0.heap.size ≤ wb.heap.size := hg.size
    have hltb : Lie wb w0.heap.size (some ⟨gm, 0, none⟩) (bvs zs) := (Sq.other (HLT.out.sq (c := zs.length) (by rw [bvs_length]; exact Nat.le_refl _) (by omega)) hg (Nat.le_refl _) (fun _ b o sp e => by simp at e; omega)).lie
    have hksb : Sq wb w0.heap.size A2 c2 (uvs K) := Sq.other HKS.out hg (Nat.le_refl _) HNK.out
    have HJ := hid hj; have HRU := hid hru; have HG := hid hg; have HLTB := hid hltb; have HKSB := hid hksb
    clear hru hg hltb hksb
    by_cases hjn : j < nb
    · have hjz : 128 * j + 128 ≤ zs.length := by rw [HNB.out]; omega
      have hji : 128 * (j : Int) < (zs.length : Int) := by omega
      obtain ⟨v0, hv0⟩ : ∃ v, v = blocksL K j s zs := ⟨_, rfl⟩
      have hvo : v0.okL := by rw [hv0]; exact blocksL_okay _ _ _ _ HS.out
      obtain ⟨m, hm⟩ : ∃ m, m = (zs.drop (128 * j)).take 128 := ⟨_, rfl⟩
      have HRV : Hid (RowU wb gh v0.list) := hid (by rw [hv0]; exact HRU.out)
      have HM := hid hm; have HV0 := hid hv0; have HVO := hid hvo
      clear hexit hj hm hv0 hvo HRU
      go_wp2
      refine words3_loop gm cm j w0.heap.size zs m wb _ _ _ _ _ _ _ _ _ _ _ _ _ _ _ _ _ _ _ _ _ _ _ _ _ _ _ _ _ _ _ _ _ _ _ _ _ _ _ _ _ _ _ _ _ _ _ _ _ _ _ _ _ _ _ _ _ _ _ _ _ _ _ _ _ _ _ _ _ _ _ _ _ _ _ _ _ _ _ _ _ _ _ _ _ _ _ _ _ _ _ _ _ _ _ _ _ _ _ _ _ _ _ _ _ _ _ _ _ _ _ _ _ _ _ _ _ _ _ _ _ _ _ _ _ _ _ _ _ _ _ _ _ _ _ _ _ _ _ _ _ _ _ _ _ _ _ _ _ _ _ _ _ _ _ _ _ _ _ _ _ _ _ _ _ _ _ _ _ _ _ _ _ _ _ _ _ _ _ _ _ _ _ _ _ _ _ _ _ _ _ _ _ _ _ _ _ _ _ _ _ _ _ _ _ _ _ _ _ _ _ _ _ _ _ _ _ _ _ _ _ _ _ _ _ _ _ _ _ _ _ _ _ _ _ _ _ _ _ _ _ _ _ _ _ _ _ _ _ _ _ _ _ _ _ _ _ _ _ _ _ _ _ _ _ _ _ _ _ _ _ _ _ _ _ _ _ _ _ _ _ _ _ _ _ _ _ _ _ _ _ _ _ _ _ _ _ _ _ _ _ _ _ _ _ _ _ _ _ _ _ _ _ _ _ _ _ _ _ _ _ _ _ _ _ _ _ _ _ _ _ _ _ _ _ _ _ _ _ _ _ _ _ _ _ _ _ _ _ _ (fun c a k x w h => hpan c a k x w h) hzs40 hjz hzc HLTB.out hszb HM.out ?_
      intro v w1 u15 u16 u17 u18 u19 u100 u101 u102 u103 u104 u105 u106 u107 u108 u109 u110 u111 u112 u113 u114 u115 u116 u117 u118 u119 u120 u121 u122 u123 u124 u125 u126 u127 u128 u129 u130 u131 u132 u133 u134 u135 u136 u137 u138 u139 u140 u141 u142 u143 u144 u145 u146 u147 u148 u149 u150 u151 u152 u153 u154 u155 u156 u157 u158 u159 u160 u161 u162 u163 u164 u165 u166 u167 u168 u169 u170 u171 u172 u173 u174 u175 u176 u177 u178 u179 u180 u181 ho1 hb1
      obtain ⟨g6, c6, rfl, hg61, hg62, hc61, hc62⟩ := ownU_form ho1 (by rw [wordsToL_length]; omega)
      rw [wordsToL_length] at hc61
      have hxs1 : Lie w1 w1.heap.size (some ⟨g6, 0, none⟩) (uvs (wordsToL m 80)) := (Lie.of_own ho1)
      have hsz1 : wb.heap.size ≤ w1.heap.size := hb1.size
      have hks1 : Sq w1 w1.heap.size A2 c2 (uvs K) := (HKSB.out.below (hb1.mono hszb)).more (by omega)
      have hrv1 : RowU w1 gh v0.list := HRV.out.keep (hb1.block gh HRV.out.lt)
      have hlh : Lie (w1.alloc (.cells #[] 28)) w1.heap.size (some ⟨gh, 0, none⟩) (uvs v0.list) := ((hrv1.lie).more (by have := hrv1.lt; omega)).alloc (Nat.le_refl _) _
      have HXS1 := hid hxs1; have HB1 := hid hb1; have HKS1 := hid hks1; have HRV1 := hid hrv1; have HLH := hid hlh
      rw [wordsToL_length]
      clear ho1 hb1 hxs1 hks1 hrv1 hlh HRV
      go_wp2_with (at_builtin; go_loud (refine wpList_append_lie rfl (.tmp 182) (.tmp 183) 80 rfl w1.heap.size 28 (.int .u64 0) 8 Tryz.underlying80 infoU64 rfl rfl (emptyR_row _ _ (k := w1.heap.size) rfl (Nat.le_refl _)) (uvs_length v0.list) rfl HLH.out (uvs_one _) ?k1 (by rw [St8.list_length]; omega) (by simp) ?_))
      case k1 => (rw [St8.list_length]; unfold maxLen; omega)
      intro v6 w6 hown6 hg6 _
      obtain ⟨gv, cv, rfl, hgv, hgvl, hcv, hcv2⟩ := ownU_form hown6 (by omega)
      have hb6 : Below w1.heap.size w1 w6 := ((Below.refl _ _).alloc (Nat.le_refl _) _).grown hg6 (by simp) (fun q h => by simp [Value.ownBlock] at h; omega)
      have hru6 := RowU.of_own hown6
      have HB6 := hid hb6; have HRU6 := hid hru6
      clear hown6 hg6 hb6 hru6 HLH
      go_wp2
      refine rounds3_loop A2 c2 g6 c6 gv cv K (wordsToL m 80) v0 w1 w6 _ _ _ _ _ _ _ _ _ _ _ _ _ _ _ _ _ _ _ _ _ _ _ _ _ _ _ _ _ _ _ _ _ _ _ _ _ _ _ _ _ _ _ _ _ _ _ _ _ _ _ _ _ _ _ _ _ _ _ _ _ _ _ _ _ _ _ _ _ _ _ _ _ _ _ _ _ _ _ _ _ _ _ _ _ _ _ _ _ _ _ _ _ _ _ _ _ _ _ _ _ _ _ _ _ _ _ _ _ _ _ _ _ _ _ _ _ _ _ _ _ _ _ _ _ _ _ _ _ _ _ _ _ _ _ _ _ _ _ _ _ _ _ _ _ _ _ _ _ _ _ _ _ _ _ _ _ _ _ _ _ _ _ _ _ _ _ _ _ _ _ _ _ _ _ _ _ _ _ _ _ _ _ _ _ _ _ _ _ _ _ _ _ _ _ _ _ _ _ _ _ _ _ _ _ _ _ _ _ _ _ _ _ _ _ _ _ _ _ _ _ _ _ _ _ _ _ _ _ _ _ _ _ _ _ _ _ _ _ _ _ _ _ _ _ _ _ _ _ _ _ _ _ _ _ _ _ _ _ _ _ _ _ _ _ _ _ _ _ _ _ _ _ _ _ _ _ _ _ _ _ _ _ _ _ _ _ _ _ _ _ _ _ _ _ _ _ _ _ _ _ _ _ _ _ _ _ _ _ _ _ _ _ _ _ _ _ _ _ _ _ _ _ _ _ _ _ _ _ _ _ _ _ _ _ _ _ _ _ _ _ _ _ _ _ _ _ _ _ _ (wordsToL_length _ _) HKL.out HVO.out HKM.out ?hXm hcv hcv2 HRU6.out hgv HB6.out HKS1.out HXS1.out hc61 ?_
      case hXm =>
        intro k
        by_cases hk : k < (wordsToL m 80).length
        · rw [List.getD_eq_getElem?_getD, List.getElem?_eq_getElem hk]
          exact wordsToL_lt m 80 _ (List.getElem_mem hk)
        · rw [List.getD_eq_getElem?_getD, List.getElem?_eq_none (by omega)]; decide
      intro gq cq w7 u21 u22 u23 u24 u25 u26 u27 u28 u185 u186 u187 u188 u189 u190 u191 u192 u193 u194 u195 u196 u197 u198 u199 u200 u201 u202 u203 u204 u205 u206 u207 u208 u209 u210 u211 u212 u213 u214 u215 u216 u217 u218 u219 u220 u221 u222 u223 u224 u225 u226 u227 u228 u229 u230 u231 u232 u233 u234 u235 u236 u237 u238 u239 u240 u241 u242 u243 u244 u245 u246 u247 u248 u249 u250 u251 u252 u253 u254 u255 u256 u257 u258 u259 u260 u261 u262 u263 u264 u265 u266 u267 u268 u269 u270 u271 u272 u273 u274 u275 u276 u277 u278 u279 u280 u281 u282 u283 u284 u285 u286 u287 u288 u289 u290 u291 u292 u293 u294 u295 u296 u297 u298 u299 u300 u301 u302 u303 u304 u305 u306 u307 u308 u309 u310 u311 u312 hru7 hgq hcq1 hcq2 hb7
      have hrv7 : RowU w7 gh v0.list := HRV1.out.keep (hb7.block gh HRV1.out.lt)
      have hghw : gh < w1.heap.size := HRV1.out.lt
      have HRU7 := hid hru7; have HB7 := hid hb7; have HRV7 := hid hrv7
      clear hru7 hb7 hrv7 HRU6 HB6
      go_wp2
      refine plus3_loop gh ch gq cq v0 (rndL K (wordsToL m 80) v0 80) w7 _ _ _ _ _ _ _ _ _ _ _ _ _ _ _ _ _ _ _ _ _ _ _ _ _ _ _ _ _ _ _ _ _ _ _ _ _ _ _ _ _ _ _ _ _ _ _ _ _ _ _ _ _ _ _ _ _ _ _ _ _ _ _ _ _ _ _ _ _ _ _ _ _ _ _ _ _ _ _ _ _ _ _ _ _ _ _ _ _ _ _ _ _ _ _ _ _ _ _ _ _ _ _ _ _ _ _ _ _ _ _ _ _ _ _ _ _ _ _ _ _ _ _ _ _ _ _ _ _ _ _ _ _ _ _ _ _ _ _ _ _ _ _ _ _ _ _ _ _ _ _ _ _ _ _ _ _ _ _ _ _ _ _ _ _ _ _ _ _ _ _ _ _ _ _ _ _ _ _ _ _ _ _ _ _ _ _ _ _ _ _ _ _ _ _ _ _ _ _ _ _ _ _ _ _ _ _ _ _ _ _ _ _ _ _ _ _ _ _ _ _ _ _ _ _ _ _ _ _ _ _ _ _ _ _ _ _ _ _ _ _ _ _ _ _ _ _ _ _ _ _ _ _ _ _ _ _ _ _ _ _ _ _ _ _ _ _ _ _ _ _ _ _ _ _ _ _ _ _ _ _ _ _ _ _ _ _ _ _ _ _ _ _ _ _ _ _ _ _ _ _ _ _ _ _ _ _ _ _ _ _ _ _ _ _ _ _ _ _ _ _ _ _ _ _ _ _ _ _ _ _ _ _ _ _ _ _ _ _ _ _ _ _ _ _ _ _ _ _ _ _ HVO.out (rndL_ok _ _ _ HVO.out _) hch hcq1 (by omega) HRV7.out HRU7.out ?_
      intro w8 u29 u313 u314 u315 u316 u317 u318 u319 u320 u321 u322 u323 u324 u325 u326 u327 u328 hru8 hg8
      have hfin : RowU w8 gh (blocksL K (j + 1) s zs).list := by
        rw [blocksL_next, ← HM.out, ← HV0.out]
        exact hru8
      have hgf : w0.grownBy w8 (some gh) := by
        have h1 : w0.grownBy w1 (some gh) := grown_step HG.out (.inl rfl) (grown_none ⟨HB1.out.os, HB1.out.tape, HB1.out.output, HB1.out.size, fun k hk _ => HB1.out.block k hk⟩ _)
        have h2 : w0.grownBy w7 (some gh) := grown_step h1 (.inl rfl) (grown_none ⟨HB7.out.os, HB7.out.tape, HB7.out.output, HB7.out.size, fun k hk _ => HB7.out.block k hk⟩ _)
        exact grown_step h2 (.inl rfl) hg8
      have HFIN := hid hfin; have HGF := hid hgf
      clear hru8 hg8 hfin hgf HRV7 HRU7 HB7 HRV1 HXS1 HKS1 HB1
      have haw : IntKind.i64.wrap (128 * (j : Int) + 128) = 128 * ((j + 1 : Nat) : Int) := by rw [show 128 * ((j + 1 : Nat) : Int) = 128 * (j : Int) + 128 by omega]; exact IntWalk.i64_in _ (by omega)
      have haw2 : (128 * (j : Int) + 128) = 128 * ((j + 1 : Nat) : Int) := by omega
      have HAW := hid haw2
      clear haw haw2
      go_wp2
      have hj := HJ.out
      go_roundg (nb - j - 1)
      case measure => omega
      case rel => exact ⟨j + 1, by omega, by rw [← HAW.out], HFIN.out, HGF.out⟩
    · obtain rfl : j = nb := by omega
      have hji : ¬ 128 * (j : Int) < (zs.length : Int) := by rw [HNB.out]; omega
      clear HJ
      go_wp2
      exact hexit wb _ _ _ _ _ _ _ _ _ _ _ _ _ _ _ _ _ _ _ _ _ _ _ _ _ _ _ _ _ _ _ _ _ _ _ _ _ _ _ _ _ _ _ _ _ _ _ _ _ _ _ _ _ _ _ _ _ _ _ _ _ _ _ _ _ _ _ _ _ _ _ _ _ _ _ _ _ _ _ _ _ _ _ _ _ _ _ _ _ _ _ _ _ _ _ _ _ _ _ _ _ _ _ _ _ _ _ _ _ _ _ _ _ _ _ _ _ _ _ _ _ _ _ _ _ _ _ _ _ _ _ _ _ _ _ _ _ _ _ _ _ _ _ _ _ _ _ _ _ _ _ _ _ _ _ _ _ _ _ _ _ _ _ _ _ _ _ _ _ _ _ _ _ _ _ _ _ _ _ _ _ _ _ _ _ _ _ _ _ _ _ _ _ _ _ _ _ _ _ _ _ _ _ _ _ _ _ _ _ _ _ _ _ _ _ _ _ _ _ _ _ _ _ _ _ _ _ _ _ _ _ _ _ _ _ _ _ _ _ _ _ _ _ _ _ _ _ _ _ _ _ _ HRU.out HG.out
end Go.Proofs.YtheamlhhfkaknaaGreatDoor
end
