/-
  The document's own longer digest: the words of a block.
-/
import Derived.Test.YtokggppfobbblaaDoorRef03e
namespace Go.Proofs.YtokggppfobbblaaDoor
open Go.RowKit
set_option linter.unusedVariables false
set_option linter.unusedSimpArgs false

/-- A word's first k bytes of eight. -/
def wk8 (m : List UInt8) (t : Nat) : Nat → Nat
  | 0 => 0
  | k + 1 => 256 * wk8 m t k + (m.getD (8 * t + k) 0).toNat
theorem wk8_lt (m : List UInt8) (t k : Nat) : wk8 m t k < 256 ^ k := by
  induction k with
  | zero => simp [wk8]
  | succ k ih =>
    have := (m.getD (8 * t + k) 0).toNat_lt
    rw [Nat.pow_succ, wk8]; omega
theorem wk8_be (m : List UInt8) (t k : Nat) (h : 8 * t + k ≤ m.length) : wk8 m t k = beNum 0 ((m.drop (8 * t)).take k) := by
  induction k with
  | zero => rfl
  | succ k ih =>
    have e : (m.drop (8 * t)).take (k + 1) = (m.drop (8 * t)).take k ++ [m.getD (8 * t + k) 0] := by
      rw [List.take_succ_eq_append_getElem (by rw [List.length_drop]; omega), List.getElem_drop, List.getD_eq_getElem?_getD, List.getElem?_eq_getElem (by omega)]
      rfl
    rw [wk8, ih (by omega), e, beNum_snoc, Nat.mul_comm]
theorem wk8_end (m : List UInt8) (t : Nat) (h : 8 * t + 8 ≤ m.length) : wk8 m t 8 = word8 m t := wk8_be m t 8 h
theorem block128_getD (zs : List UInt8) (j k : Nat) (h : k < 128) : ((zs.drop (128 * j)).take 128).getD k 0 = zs.getD (128 * j + k) 0 := by
  rw [List.getD_eq_getElem?_getD, List.getElem?_take_of_lt h, List.getElem?_drop, List.getD_eq_getElem?_getD]
theorem wordsToL_low (m : List UInt8) (t : Nat) (h : t < 16) : wordsToL m (t + 1) = wordsToL m t ++ [word8 m t] := by simp only [wordsToL, if_pos h]
theorem wordsToL_high (m : List UInt8) (t : Nat) (h : ¬ t < 16) : wordsToL m (t + 1) = wordsToL m t ++ [(s1L ((wordsToL m t).getD (t - 2) 0) + (wordsToL m t).getD (t - 7) 0 + s0L ((wordsToL m t).getD (t - 15) 0) + (wordsToL m t).getD (t - 16) 0) % 18446744073709551616] := by simp only [wordsToL, if_neg h]

set_option maxRecDepth 100000 in
set_option maxHeartbeats 4000000 in
theorem words3_loop {Q : Exit → Act → World → Prop} (gm cm j B : Nat) (zs m : List UInt8) (wb : World) (t0 t1 t2 t4 t5 t6 t7 t8 t9 t10 t11 t12 t16 t17 t18 t19 t20 t21 t22 t23 t24 t25 t26 t27 t28 t29 t30 t31 t32 t33 t34 t35 t36 t37 t38 t39 t40 t41 t42 t43 t44 t45 t46 t47 t48 t49 t50 t51 t52 t53 t54 t55 t56 t57 t58 t59 t60 t61 t62 t63 t64 t65 t66 t67 t68 t69 t70 t71 t72 t73 t74 t75 t76 t77 t78 t79 t80 t81 t82 t83 t84 t85 t86 t87 t88 t89 t90 t91 t92 t93 t94 t95 t96 t97 t98 t99 t100 t101 t102 t103 t104 t105 t106 t107 t108 t109 t110 t111 t112 t113 t114 t115 t116 t117 t118 t119 t120 t121 t122 t123 t124 t125 t126 t127 t128 t129 t130 t131 t132 t133 t134 t135 t136 t137 t138 t139 t140 t141 t142 t143 t144 t145 t146 t147 t148 t149 t150 t151 t152 t153 t154 t155 t156 t157 t158 t159 t160 t161 t162 t163 t164 t165 t166 t167 t168 t169 t170 t171 t172 t173 t174 t175 t176 t177 t178 t179 t180 t181 t182 t183 t184 t185 t186 t187 t188 t189 t190 t191 t192 t193 t194 t195 t196 t197 t198 t199 t200 t201 t202 t203 t204 t205 t206 t207 t208 t209 t210 t211 t212 t213 t214 t215 t216 t217 t218 t219 t220 t221 t222 t223 t224 t225 t226 t227 t228 t229 t230 t231 t232 t233 t234 t235 t236 t237 t238 t239 t240 t241 t242 t243 t244 t245 t246 t247 t248 t249 t250 t251 t252 t253 t254 t255 t256 t257 t258 t259 t260 t261 t262 t263 t264 t265 t266 t267 t268 t269 t270 t271 t272 t273 t274 t275 t276 t277 t278 t279 t280 t281 t282 t283 t284 t285 t286 t287 t288 t289 t290 t291 t292 t293 t294 t295 t296 t297 t298 t299 t300 t301 t302 t303 t304 t305 t306 t307 t308 t309 t310 t311 t312 t313 t314 t315 t316 t317 t318 t319 t320 t321 t322 t323 t324 t325 t326 t327 t328 t329 t330 t331 t332 t333 t334 t335 t336 t337 t338 t339 t340 t341 t342 t343 t344 t345 t346 t347 t348 t349 t350 t351 t352 t353 : Value)
    (hpan : ∀ c (a : Act) (k : Tmp) (x : Value) (w : World), Q (.panic c) (a.put (some k) x) w → Q (.panic c) a w)
    (hzs40 : zs.length < 1099511627900) (hjz : 128 * j + 128 ≤ zs.length) (hzc : zs.length ≤ cm) (hlt : Lie wb B (some ⟨gm, 0, none⟩) (bvs zs)) (hszb : B ≤ wb.heap.size) (hm : m = (zs.drop (128 * j)).take 128)
    (hexit : ∀ (v : Value) (w' : World) (u15 u16 u17 u18 u19 u100 u101 u102 u103 u104 u105 u106 u107 u108 u109 u110 u111 u112 u113 u114 u115 u116 u117 u118 u119 u120 u121 u122 u123 u124 u125 u126 u127 u128 u129 u130 u131 u132 u133 u134 u135 u136 u137 u138 u139 u140 u141 u142 u143 u144 u145 u146 u147 u148 u149 u150 u151 u152 u153 u154 u155 u156 u157 u158 u159 u160 u161 u162 u163 u164 u165 u166 u167 u168 u169 u170 u171 u172 u173 u174 u175 u176 u177 u178 u179 u180 u181 : Value), OwnU w' wb.heap.size v (wordsToL m 80) → Below wb.heap.size wb w' → Q (.exit 12) ⟨(t0 :: t1 :: t2 :: (.slice (some ⟨gm, 0, none⟩) zs.length cm) :: t4 :: t5 :: t6 :: t7 :: t8 :: t9 :: t10 :: t11 :: t12 :: (.int .i64 (128 * (j : Int))) :: v :: u15 :: u16 :: u17 :: u18 :: u19 :: t20 :: t21 :: t22 :: t23 :: t24 :: t25 :: t26 :: t27 :: t28 :: t29 :: t30 :: t31 :: t32 :: t33 :: t34 :: t35 :: t36 :: t37 :: t38 :: t39 :: t40 :: t41 :: t42 :: t43 :: t44 :: t45 :: t46 :: t47 :: t48 :: t49 :: t50 :: t51 :: t52 :: t53 :: t54 :: t55 :: t56 :: t57 :: t58 :: t59 :: t60 :: t61 :: t62 :: t63 :: t64 :: t65 :: t66 :: t67 :: t68 :: t69 :: t70 :: t71 :: t72 :: t73 :: t74 :: t75 :: t76 :: t77 :: t78 :: t79 :: t80 :: t81 :: t82 :: t83 :: t84 :: t85 :: t86 :: t87 :: t88 :: t89 :: t90 :: t91 :: t92 :: t93 :: t94 :: t95 :: t96 :: t97 :: t98 :: t99 :: u100 :: u101 :: u102 :: u103 :: u104 :: u105 :: u106 :: u107 :: u108 :: u109 :: u110 :: u111 :: u112 :: u113 :: u114 :: u115 :: u116 :: u117 :: u118 :: u119 :: u120 :: u121 :: u122 :: u123 :: u124 :: u125 :: u126 :: u127 :: u128 :: u129 :: u130 :: u131 :: u132 :: u133 :: u134 :: u135 :: u136 :: u137 :: u138 :: u139 :: u140 :: u141 :: u142 :: u143 :: u144 :: u145 :: u146 :: u147 :: u148 :: u149 :: u150 :: u151 :: u152 :: u153 :: u154 :: u155 :: u156 :: u157 :: u158 :: u159 :: u160 :: u161 :: u162 :: u163 :: u164 :: u165 :: u166 :: u167 :: u168 :: u169 :: u170 :: u171 :: u172 :: u173 :: u174 :: u175 :: u176 :: u177 :: u178 :: u179 :: u180 :: u181 :: t182 :: t183 :: t184 :: t185 :: t186 :: t187 :: t188 :: t189 :: t190 :: t191 :: t192 :: t193 :: t194 :: t195 :: t196 :: t197 :: t198 :: t199 :: t200 :: t201 :: t202 :: t203 :: t204 :: t205 :: t206 :: t207 :: t208 :: t209 :: t210 :: t211 :: t212 :: t213 :: t214 :: t215 :: t216 :: t217 :: t218 :: t219 :: t220 :: t221 :: t222 :: t223 :: t224 :: t225 :: t226 :: t227 :: t228 :: t229 :: t230 :: t231 :: t232 :: t233 :: t234 :: t235 :: t236 :: t237 :: t238 :: t239 :: t240 :: t241 :: t242 :: t243 :: t244 :: t245 :: t246 :: t247 :: t248 :: t249 :: t250 :: t251 :: t252 :: t253 :: t254 :: t255 :: t256 :: t257 :: t258 :: t259 :: t260 :: t261 :: t262 :: t263 :: t264 :: t265 :: t266 :: t267 :: t268 :: t269 :: t270 :: t271 :: t272 :: t273 :: t274 :: t275 :: t276 :: t277 :: t278 :: t279 :: t280 :: t281 :: t282 :: t283 :: t284 :: t285 :: t286 :: t287 :: t288 :: t289 :: t290 :: t291 :: t292 :: t293 :: t294 :: t295 :: t296 :: t297 :: t298 :: t299 :: t300 :: t301 :: t302 :: t303 :: t304 :: t305 :: t306 :: t307 :: t308 :: t309 :: t310 :: t311 :: t312 :: t313 :: t314 :: t315 :: t316 :: t317 :: t318 :: t319 :: t320 :: t321 :: t322 :: t323 :: t324 :: t325 :: t326 :: t327 :: t328 :: t329 :: t330 :: t331 :: t332 :: t333 :: t334 :: t335 :: t336 :: t337 :: t338 :: t339 :: t340 :: t341 :: t342 :: t343 :: t344 :: t345 :: t346 :: t347 :: t348 :: t349 :: t350 :: t351 :: t352 :: t353 :: []).toArray, []⟩ w') :
    Code.wp Tryd.prog (Code.loop (loopN Tryd.f17 6)) Q ⟨(t0 :: t1 :: t2 :: (.slice (some ⟨gm, 0, none⟩) zs.length cm) :: t4 :: t5 :: t6 :: t7 :: t8 :: t9 :: t10 :: t11 :: t12 :: (.int .i64 (128 * (j : Int))) :: (.slice none 0 0) :: (.int .i64 0) :: t16 :: t17 :: t18 :: t19 :: t20 :: t21 :: t22 :: t23 :: t24 :: t25 :: t26 :: t27 :: t28 :: t29 :: t30 :: t31 :: t32 :: t33 :: t34 :: t35 :: t36 :: t37 :: t38 :: t39 :: t40 :: t41 :: t42 :: t43 :: t44 :: t45 :: t46 :: t47 :: t48 :: t49 :: t50 :: t51 :: t52 :: t53 :: t54 :: t55 :: t56 :: t57 :: t58 :: t59 :: t60 :: t61 :: t62 :: t63 :: t64 :: t65 :: t66 :: t67 :: t68 :: t69 :: t70 :: t71 :: t72 :: t73 :: t74 :: t75 :: t76 :: t77 :: t78 :: t79 :: t80 :: t81 :: t82 :: t83 :: t84 :: t85 :: t86 :: t87 :: t88 :: t89 :: t90 :: t91 :: t92 :: t93 :: t94 :: t95 :: t96 :: t97 :: t98 :: t99 :: t100 :: t101 :: t102 :: t103 :: t104 :: t105 :: t106 :: t107 :: t108 :: t109 :: t110 :: t111 :: t112 :: t113 :: t114 :: t115 :: t116 :: t117 :: t118 :: t119 :: t120 :: t121 :: t122 :: t123 :: t124 :: t125 :: t126 :: t127 :: t128 :: t129 :: t130 :: t131 :: t132 :: t133 :: t134 :: t135 :: t136 :: t137 :: t138 :: t139 :: t140 :: t141 :: t142 :: t143 :: t144 :: t145 :: t146 :: t147 :: t148 :: t149 :: t150 :: t151 :: t152 :: t153 :: t154 :: t155 :: t156 :: t157 :: t158 :: t159 :: t160 :: t161 :: t162 :: t163 :: t164 :: t165 :: t166 :: t167 :: t168 :: t169 :: t170 :: t171 :: t172 :: t173 :: t174 :: t175 :: t176 :: t177 :: t178 :: t179 :: t180 :: t181 :: t182 :: t183 :: t184 :: t185 :: t186 :: t187 :: t188 :: t189 :: t190 :: t191 :: t192 :: t193 :: t194 :: t195 :: t196 :: t197 :: t198 :: t199 :: t200 :: t201 :: t202 :: t203 :: t204 :: t205 :: t206 :: t207 :: t208 :: t209 :: t210 :: t211 :: t212 :: t213 :: t214 :: t215 :: t216 :: t217 :: t218 :: t219 :: t220 :: t221 :: t222 :: t223 :: t224 :: t225 :: t226 :: t227 :: t228 :: t229 :: t230 :: t231 :: t232 :: t233 :: t234 :: t235 :: t236 :: t237 :: t238 :: t239 :: t240 :: t241 :: t242 :: t243 :: t244 :: t245 :: t246 :: t247 :: t248 :: t249 :: t250 :: t251 :: t252 :: t253 :: t254 :: t255 :: t256 :: t257 :: t258 :: t259 :: t260 :: t261 :: t262 :: t263 :: t264 :: t265 :: t266 :: t267 :: t268 :: t269 :: t270 :: t271 :: t272 :: t273 :: t274 :: t275 :: t276 :: t277 :: t278 :: t279 :: t280 :: t281 :: t282 :: t283 :: t284 :: t285 :: t286 :: t287 :: t288 :: t289 :: t290 :: t291 :: t292 :: t293 :: t294 :: t295 :: t296 :: t297 :: t298 :: t299 :: t300 :: t301 :: t302 :: t303 :: t304 :: t305 :: t306 :: t307 :: t308 :: t309 :: t310 :: t311 :: t312 :: t313 :: t314 :: t315 :: t316 :: t317 :: t318 :: t319 :: t320 :: t321 :: t322 :: t323 :: t324 :: t325 :: t326 :: t327 :: t328 :: t329 :: t330 :: t331 :: t332 :: t333 :: t334 :: t335 :: t336 :: t337 :: t338 :: t339 :: t340 :: t341 :: t342 :: t343 :: t344 :: t345 :: t346 :: t347 :: t348 :: t349 :: t350 :: t351 :: t352 :: t353 :: []).toArray, []⟩ wb := by
  conv => arg 2; arg 1; whnf
  have hml : m.length = 128 := by rw [hm, List.length_take, List.length_drop]; omega
  have HM := hid hm; have HLT := hid hlt; have HMM := hid hml
  clear hm hlt hml
  have hji : 128 * (j : Int) < (zs.length : Int) := by omega
  go_loopg [14, 15] 80 (fun g u i wr => ∃ t : Nat, t + g = 80 ∧ i = .int .i64 (t : Int) ∧ OwnU wr wb.heap.size u (wordsToL m t) ∧ Below wb.heap.size wb wr)
  case atStart => exact ⟨0, rfl, rfl, ownu_nil _ _, Below.refl _ _⟩
  case round =>
    obtain ⟨t, ht, rfl, ho, hb⟩ := hrel
    obtain ⟨wt, rfl⟩ : ∃ wt : World, wt = wr := ⟨_, rfl⟩
    obtain ⟨xs, hxs⟩ : ∃ xs, xs = wordsToL m t := ⟨_, rfl⟩
    rw [← hxs] at ho
    have hxl : xs.length = t := by rw [hxs]; exact wordsToL_length _ _
    unfold OwnU at ho
    rw [hxl] at ho
    have ht64 : t ≤ 80 := by omega
    have HT := hid ht; have HB := hid hb; have HXS := hid hxs; have HXL := hid hxl
    obtain ⟨A6, c6, rfl, hS6⟩ := own_sl ho
    have HO := hid ho; have HS6 := hid hS6.sq
    have hszt := hb.size
    clear ht hb hxs hxl ho hS6
    by_cases ht16 : t < 16
    · have hti : (t : Int) < 16 := by omega
      have HML : Hid (8 * t + 8 ≤ m.length) := hid (by rw [HMM.out]; omega)
      have hti64 : (t : Int) < 80 := by omega
      go_wp2
      go_loopg [16, 17] 8 (fun g x q wr => ∃ k y : Nat, k + g = 8 ∧ q = .int .i64 (k : Int) ∧ x = .int .u64 (y : Int) ∧ y = wk8 m t k ∧ wr = wt)
      case atStart => exact ⟨0, 0, rfl, rfl, rfl, rfl, rfl⟩
      case round =>
        obtain ⟨k, y, hk, rfl, rfl, hy, rfl⟩ := hrel
        have hyl : y < 256 ^ k := by rw [hy]; exact wk8_lt _ _ _
        have HK := hid hk; have HY := hid hy
        have hk4 : k ≤ 8 := by omega
        clear hk hy
        by_cases hlt4 : k < 8
        · have hki : (k : Int) < 8 := by omega
          have hk0 : (0 : Int) ≤ (k : Int) := by omega
          have hyb : y < 72057594037927936 := Nat.lt_of_lt_of_le hyl (Nat.pow_le_pow_right (show 256 > 0 by omega) (show k ≤ 7 by omega))
          obtain ⟨x, hx⟩ : ∃ x : UInt8, x = zs.getD (128 * j + (8 * t + k)) 0 := ⟨_, rfl⟩
          have hcx : wr.cell? ⟨gm, 0 + (128 * j + (8 * t + k)), none⟩ = some (.int .u8 (x.toNat : Int)) := by
            rw [hx]
            exact byte_cell (HLT.out.below (HB.out.mono hszb)) (by omega)
          have hx8 := x.toNat_lt
          have hcx' : wr.cell? ⟨gm, 128 * j + 8 * t + k, none⟩ = some (.int .u8 (x.toNat : Int)) := by
            rw [Nat.zero_add, ← Nat.add_assoc] at hcx; exact hcx
          have HX := hid hx
          clear hcx hx hyl
          go_wp2
          have hk := HK.out
          have hb64 : (zs.drop (128 * j)).length ≥ 128 := by rw [List.length_drop]; omega
          go_roundg (8 - k - 1)
          case measure => omega
          case rel => exact ⟨k + 1, 256 * y + x.toNat, by omega, by go_num, by go_num, by rw [wk8, HY.out, HM.out, block128_getD _ _ _ (by omega), HX.out], rfl⟩
        · obtain rfl : k = 8 := by omega
          have hki : ¬ ((8 : Nat) : Int) < 8 := by omega
          have hyw : y = word8 m t := by rw [HY.out, wk8_end m t HML.out]
          have HYW := hid hyw
          clear hyl hyw HK HY
          have HO2' := hid (World.ownsRow.alloc HO.out (.cells #[.int .u64 (y : Int)] 52))
          go_wp2_with (at_builtin; go_loud (refine wpList_append_lie rfl (.tmp 178) (.tmp 180) 43 rfl wb.heap.size 52 (.int .u64 0) 8 Tryd.underlying43 infoU64 rfl rfl HO2'.out rfl rfl (Lie.new1 _ _ _) ?i0 ?i1 ?i2 ?i3 ?_))
          case i0 => intros; first | rfl | (rename_i hu; simp at hu; subst hu; rfl)
          case i1 => try rw [List.length_singleton]
                     unfold maxLen; omega
          case i2 => try rw [List.length_singleton]
                     omega
          case i3 => first | (simp; omega) | (simp; done) | omega 
          intro v5 w5 hown5 hg5 _
          have hO5 : OwnU w5 wb.heap.size v5 (wordsToL m (t + 1)) := by
            rw [wordsToL_low m t ht16, ← HXS.out, ← HYW.out]
            exact ownu_snoc hown5 (by rw [HXL.out]) rfl
          have hB5 : Below wb.heap.size wb w5 := (HB.out.alloc HB.out.size _).grown hg5 (by simp; omega) (fun q h => own_lt HO2'.out q h)
          have HO5 := hid hO5; have HB5 := hid hB5
          clear hown5 hg5 hO5 hB5 HO2'
          go_wp2
          have ht := HT.out
          go_roundg (80 - t - 1)
          case measure => omega
          case rel => exact ⟨t + 1, by omega, by go_num, HO5.out, HB5.out⟩
    · have hti : ¬ (t : Int) < 16 := by omega
      have ht0 : (16 : Int) ≤ (t : Int) := by omega
      by_cases htt : t < 80
      · have hti64 : (t : Int) < 80 := by omega
        obtain ⟨g6, c6', hv6, hg61, hg62, _, _⟩ := ownU_form HO.out (by omega)
        simp only [Value.slice.injEq, true_and] at hv6
        obtain ⟨rfl, rfl⟩ := hv6
        have hold : ∀ d, 0 < d → d ≤ 16 → ∃ x : Nat, x = xs.getD (t - d) 0 ∧ x < 18446744073709551616 ∧ wt.cell? ⟨g6, t - d, none⟩ = some (.int .u64 (x : Int)) := fun d h0 hd =>
          ⟨_, rfl, by
            rw [List.getD_eq_getElem?_getD, List.getElem?_eq_getElem (show t - d < xs.length by rw [HXL.out]; omega)]
            exact wordsToL_lt m t _ (by rw [← HXS.out]; exact List.getElem_mem _), by
            have := word_cell HS6.out.lie (k := t - d) (by rw [HXL.out]; omega)
            rw [Nat.zero_add] at this; exact this⟩
        obtain ⟨x, hex, hx, hcx⟩ := hold 15 (by omega) (by omega)
        obtain ⟨y, hey, hy, hcy⟩ := hold 2 (by omega) (by omega)
        obtain ⟨p, hep, hp, hcp⟩ := hold 7 (by omega) (by omega)
        obtain ⟨q, heq, hq, hcq⟩ := hold 16 (by omega) (by omega)
        obtain ⟨x7, hx7⟩ : ∃ a, a = rotrL x 1 := ⟨_, rfl⟩
        obtain ⟨x18, hx18⟩ : ∃ a, a = rotrL x 8 := ⟨_, rfl⟩
        obtain ⟨x3, hx3⟩ : ∃ a, a = x / 2 ^ 7 := ⟨_, rfl⟩
        obtain ⟨y17, hy17⟩ : ∃ a, a = rotrL y 19 := ⟨_, rfl⟩
        obtain ⟨y19, hy19⟩ : ∃ a, a = rotrL y 61 := ⟨_, rfl⟩
        obtain ⟨y10, hy10⟩ : ∃ a, a = y / 2 ^ 6 := ⟨_, rfl⟩
        have HT7 := hid (turn3_l x 1 1 x7 hx (by omega) rfl hx7)
        have HT18 := hid (turn3_l x 8 8 x18 hx (by omega) rfl hx18)
        have HT3 := hid (shift3_l x 7 7 x3 (by omega) (by omega) rfl hx3)
        have HT17 := hid (turn3_l y 19 19 y17 hy (by omega) rfl hy17)
        have HT19 := hid (turn3_l y 61 61 y19 hy (by omega) rfl hy19)
        have HT10 := hid (shift3_l y 6 6 y10 (by omega) (by omega) rfl hy10)
        obtain ⟨a0, ha0⟩ : ∃ a, a = s0L x := ⟨_, rfl⟩
        obtain ⟨a1, ha1⟩ : ∃ a, a = s1L y := ⟨_, rfl⟩
        have ha0l : a0 < 18446744073709551616 := by rw [ha0]; exact s0L_lt x hx
        have ha1l : a1 < 18446744073709551616 := by rw [ha1]; exact s1L_lt y hy
        have e0 : bits .xor .u64 (bits .xor .u64 (x7 : Int) (x18 : Int)) (x3 : Int) = (a0 : Int) := by
          rw [xor3L_u64 _ _ _ (by rw [hx7]; have := rotrL_lt x 1 hx (by omega); omega) (by rw [hx18]; have := rotrL_lt x 8 hx (by omega); omega) (by rw [hx3]; omega), ha0, hx7, hx18, hx3]; rfl
        have e1 : bits .xor .u64 (bits .xor .u64 (y17 : Int) (y19 : Int)) (y10 : Int) = (a1 : Int) := by
          rw [xor3L_u64 _ _ _ (by rw [hy17]; have := rotrL_lt y 19 hy (by omega); omega) (by rw [hy19]; have := rotrL_lt y 61 hy (by omega); omega) (by rw [hy10]; omega), ha1, hy17, hy19, hy10]; rfl
        obtain ⟨u1, hu1⟩ : ∃ u, u = (a1 + p) % 18446744073709551616 := ⟨_, rfl⟩
        obtain ⟨u2, hu2⟩ : ∃ u, u = (u1 + a0) % 18446744073709551616 := ⟨_, rfl⟩
        obtain ⟨r, hr⟩ : ∃ r, r = (u2 + q) % 18446744073709551616 := ⟨_, rfl⟩
        have f1 : IntKind.u64.wrap ((a1 : Int) + (p : Int)) = (u1 : Int) := addL_u64 _ _ _ hu1
        have f2 : IntKind.u64.wrap ((u1 : Int) + (a0 : Int)) = (u2 : Int) := addL_u64 _ _ _ hu2
        have f3 : IntKind.u64.wrap ((u2 : Int) + (q : Int)) = (r : Int) := addL_u64 _ _ _ hr
        have hnext : r = (s1L y + p + s0L x + q) % 18446744073709551616 := by rw [← ha0, ← ha1]; omega
        have HX := hid hex; have HY := hid hey; have HP := hid hep; have HQ := hid heq; have HNEXT := hid hnext
        have q1 : IntKind.i64.wrap ((t : Int) - 7) = (t : Int) - 7 := IntWalk.i64_in _ (by omega)
        have q2 : (7 : Int) ≤ (t : Int) := by omega
        have q3 : (t : Int) - 7 < (t : Int) := by omega
        have q4 : ((t : Int) - 7).toNat = t - 7 := by omega
        have q5 : IntKind.i64.wrap ((t : Int) - 16) = (t : Int) - 16 := IntWalk.i64_in _ (by omega)
        have q6 : (16 : Int) ≤ (t : Int) := by omega
        have q7 : (t : Int) - 16 < (t : Int) := by omega
        have q8 : ((t : Int) - 16).toNat = t - 16 := by omega
        have q9 : IntKind.i64.wrap ((t : Int) - 2) = (t : Int) - 2 := IntWalk.i64_in _ (by omega)
        have q10 : (2 : Int) ≤ (t : Int) := by omega
        have q11 : (t : Int) - 2 < (t : Int) := by omega
        have q12 : ((t : Int) - 2).toNat = t - 2 := by omega
        have q13 : IntKind.i64.wrap ((t : Int) - 15) = (t : Int) - 15 := IntWalk.i64_in _ (by omega)
        have q14 : (15 : Int) ≤ (t : Int) := by omega
        have q15 : (t : Int) - 15 < (t : Int) := by omega
        have q16 : ((t : Int) - 15).toNat = t - 15 := by omega
        clear hold hex hey hep heq hx7 hx18 hx3 hy17 hy19 hy10 ha0 ha1 hu1 hu2 hr hnext ha0l ha1l
        go_wp2
        go_quiet (first | (go_at_call 35; first | with_reducible exact HT7.out _ _ | with_reducible exact HT18.out _ _) | (go_at_call 36; with_reducible exact HT3.out _ _))
        obtain ⟨wa, hwa⟩ : ∃ wa : World, wa = wt.drewN nq := ⟨_, rfl⟩
        replace hcy : wa.cell? ⟨g6, t - 2, none⟩ = some (.int .u64 (y : Int)) := by rw [hwa]; exact hcy
        replace hcp : wa.cell? ⟨g6, t - 7, none⟩ = some (.int .u64 (p : Int)) := by rw [hwa]; exact hcp
        replace hcq : wa.cell? ⟨g6, t - 16, none⟩ = some (.int .u64 (q : Int)) := by rw [hwa]; exact hcq
        rw [← hwa]
        have HWA := hid hwa
        clear hwa hcx
        go_wp2
        go_quiet (first | (go_at_call 35; first | with_reducible exact HT17.out _ _ | with_reducible exact HT19.out _ _) | (go_at_call 36; with_reducible exact HT10.out _ _))
        obtain ⟨wc, hwc⟩ : ∃ wc : World, wc = wa.drewN nq := ⟨_, rfl⟩
        replace hcp : wc.cell? ⟨g6, t - 7, none⟩ = some (.int .u64 (p : Int)) := by rw [hwc]; exact hcp
        replace hcq : wc.cell? ⟨g6, t - 16, none⟩ = some (.int .u64 (q : Int)) := by rw [hwc]; exact hcq
        rw [← hwc]
        have HWC := hid hwc
        clear hwc
        go_wp2
        go_quiet (fail)
        obtain ⟨ne, hne⟩ : ∃ ne, ne = nq := ⟨_, rfl⟩
        rw [← hne]
        clear hne
        clear q1 q2 q3 q4 q5 q6 q7 q8 q9 q10 q11 q12 q13 q14 q15 q16 f1 f2 f3 e0 e1 hcy hcp hcq hx hy hp hq
        obtain ⟨wq, hwq, hwn⟩ : ∃ wq : World, wq = wc.drewN ne ∧ ∃ n, wq = wt.drewN n := ⟨_, rfl, _, by rw [HWC.out, HWA.out, World.drewN_drewN, World.drewN_drewN]⟩
        rw [← hwq]
        have hBq : Below wb.heap.size wb wq := by obtain ⟨n, rfl⟩ := hwn; exact below_drewN HB.out n
        have hOq : wq.ownsRow wb.heap.size 52 1 (.slice (some ⟨g6, 0, none⟩) t c6) t (uvs xs) := by obtain ⟨n, rfl⟩ := hwn; exact HO.out
        have HO2' := hid (World.ownsRow.alloc hOq (.cells #[.int .u64 (r : Int)] 52))
        have HBQ := hid hBq
        clear hwq hwn hBq hOq HT7 HT18 HT3 HT17 HT19 HT10
        go_wp2_with (at_builtin; go_loud (refine wpList_append_lie rfl (.tmp 178) (.tmp 180) 43 rfl wb.heap.size 52 (.int .u64 0) 8 Tryd.underlying43 infoU64 rfl rfl HO2'.out rfl rfl (Lie.new1 _ _ _) ?l0 ?l1 ?l2 ?l3 ?_))
        case l0 => intros; first | rfl | (rename_i hu; simp at hu; subst hu; rfl)
        case l1 => try rw [List.length_singleton]
                   unfold maxLen; omega
        case l2 => try rw [List.length_singleton]
                   omega
        case l3 => (have := HBQ.out.size; simp; omega)
        intro v5 w5 hown5 hg5 _
        have hO5 : OwnU w5 wb.heap.size v5 (wordsToL m (t + 1)) := by
          rw [wordsToL_high m t ht16, ← HXS.out, ← HX.out, ← HY.out, ← HP.out, ← HQ.out, ← HNEXT.out]
          exact ownu_snoc hown5 (by rw [HXL.out]) rfl
        have hB5 : Below wb.heap.size wb w5 := (HBQ.out.alloc HBQ.out.size _).grown hg5 (by have := HBQ.out.size; simp; omega) (fun q h => own_lt HO2'.out q h)
        have HO5 := hid hO5; have HB5 := hid hB5
        clear hown5 hg5 hO5 hB5 HO2'
        go_wp2
        have ht := HT.out
        go_roundg (80 - t - 1)
        case measure => omega
        case rel => exact ⟨t + 1, by omega, by go_num, HO5.out, HB5.out⟩
      · obtain rfl : t = 80 := by omega
        have hti64 : ¬ ((80 : Nat) : Int) < 80 := by omega
        have ho : OwnU wt wb.heap.size (.slice A6 80 c6) (wordsToL m 80) := by
          rw [← HXS.out]
          have h := HO.out
          unfold OwnU
          rw [HXL.out]
          exact h
        have HO6 := hid ho
        clear ho HO HS6 HXS HXL
        go_wp2
        exact hexit _ wt _ _ _ _ _ _ _ _ _ _ _ _ _ _ _ _ _ _ _ _ _ _ _ _ _ _ _ _ _ _ _ _ _ _ _ _ _ _ _ _ _ _ _ _ _ _ _ _ _ _ _ _ _ _ _ _ _ _ _ _ _ _ _ _ _ _ _ _ _ _ _ _ _ _ _ _ _ _ _ _ _ _ _ _ _ _ _ HO6.out HB.out
end Go.Proofs.YtokggppfobbblaaDoor
