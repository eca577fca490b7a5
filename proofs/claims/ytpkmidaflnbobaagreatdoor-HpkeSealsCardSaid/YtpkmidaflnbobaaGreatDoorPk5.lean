/-
  Texts of this claim in one file: Ref02j, Ref04b, Ref05, Ref05b.
-/
import Derived.Test.YtpkmidaflnbobaaGreatDoorPk4
import Derived.Test.YtpkmidaflnbobaaGreatDoorPk9
import Derived.Test.YtpkmidaflnbobaaGreatDoorPk11
section
namespace Go.Proofs.YtpkmidaflnbobaaGreatDoor
section
open Go.RowKit
set_option linter.unusedVariables false
set_option linter.unusedSimpArgs false
set_option maxRecDepth 100000 in
set_option maxHeartbeats 4000000 in
theorem words_loop {Q : Exit → Act → World → Prop} (gm cm j B : Nat) (zs m : List UInt8) (wb : World) (t0 t1 t2 t3 t4 t5 t6 t7 t9 t10 t11 t12 t16 t17 t18 t19 t20 t21 t22 t23 t24 t25 t26 t27 t28 t29 t30 t31 t32 t33 t34 t35 t36 t37 t38 t39 t40 t41 t42 t43 t44 t45 t46 t47 t48 t49 t50 t51 t52 t53 t54 t55 t56 t57 t58 t59 t60 t61 t62 t63 t64 t65 t66 t67 t68 t69 t70 t71 t72 t73 t74 t75 t76 t77 t78 t79 t80 t81 t82 t83 t84 t85 t86 t87 t88 t89 t90 t91 t92 t93 t94 t95 t96 t97 t98 t99 t100 t101 t102 t103 t104 t105 t106 t107 t108 t109 t110 t111 t112 t113 t114 t115 t116 t117 t118 t119 t120 t121 t122 t123 t124 t125 t126 t127 t128 t129 t130 t131 t132 t133 t134 t135 t136 t137 t138 t139 t140 t141 t142 t143 t144 t145 t146 t147 t148 t149 t150 t151 t152 t153 t154 t155 t156 t157 t158 t159 t160 t161 t162 t163 t164 t165 t166 t167 t168 t169 t170 t171 t172 t173 t174 t175 t176 t177 t178 t179 t180 t181 t182 t183 t184 t185 t186 t187 t188 t189 t190 t191 t192 t193 t194 t195 t196 t197 t198 t199 t200 t201 t202 t203 t204 t205 t206 t207 t208 t209 t210 t211 t212 t213 t214 t215 t216 t217 t218 t219 t220 t221 t222 t223 t224 t225 t226 t227 t228 t229 t230 t231 t232 t233 t234 t235 t236 t237 t238 t239 t240 t241 t242 t243 t244 t245 t246 t247 t248 t249 t250 t251 t252 t253 t254 t255 t256 t257 t258 t259 t260 t261 t262 t263 t264 t265 t266 t267 t268 t269 t270 t271 t272 t273 t274 t275 t276 t277 t278 t279 t280 t281 t282 t283 t284 t285 t286 t287 t288 t289 t290 t291 t292 t293 t294 t295 t296 t297 t298 t299 t300 t301 t302 t303 t304 t305 t306 t307 t308 t309 t310 t311 t312 t313 t314 t315 t316 t317 t318 t319 t320 t321 t322 t323 t324 t325 t326 t327 t328 t329 t330 t331 t332 t333 t334 t335 t336 t337 t338 t339 t340 t341 t342 t343 t344 t345 t346 t347 t348 t349 t350 t351 : Value)
    (hpan : ∀ c (a : Act) (k : Tmp) (x : Value) (w : World), Q (.panic c) (a.put (some k) x) w → Q (.panic c) a w)
    (hzs40 : zs.length < 1099511627900) (hjz : 64 * j + 64 ≤ zs.length) (hzc : zs.length ≤ cm) (hlt : Lie wb B (some ⟨gm, 0, none⟩) (bvs zs)) (hszb : B ≤ wb.heap.size) (hm : m = (zs.drop (64 * j)).take 64)
    (hexit : ∀ (v : Value) (w' : World) (u15 u16 u17 u18 u19 u76 u77 u78 u79 u80 u81 u82 u83 u84 u85 u86 u87 u88 u89 u90 u91 u92 u93 u94 u95 u96 u97 u98 u99 u100 u101 u102 u103 u104 u105 u106 u107 u108 u109 u110 u111 u112 u113 u114 u115 u116 u117 u118 u119 u120 u121 u122 u123 u124 u125 u126 u127 u128 u129 u130 u131 u132 u133 u134 u135 u136 u137 u138 u139 u140 u141 u142 u143 u144 u145 u146 u147 u148 u149 u150 u151 u152 u153 u154 u155 u156 u157 u158 u159 u160 u161 : Value), OwnU w' wb.heap.size v (wordsTo m 64) → Below wb.heap.size wb w' → Q (.exit 8) ⟨(t0 :: t1 :: t2 :: t3 :: t4 :: t5 :: t6 :: t7 :: (.slice (some ⟨gm, 0, none⟩) zs.length cm) :: t9 :: t10 :: t11 :: t12 :: (.int .i64 (64 * (j : Int))) :: v :: u15 :: u16 :: u17 :: u18 :: u19 :: t20 :: t21 :: t22 :: t23 :: t24 :: t25 :: t26 :: t27 :: t28 :: t29 :: t30 :: t31 :: t32 :: t33 :: t34 :: t35 :: t36 :: t37 :: t38 :: t39 :: t40 :: t41 :: t42 :: t43 :: t44 :: t45 :: t46 :: t47 :: t48 :: t49 :: t50 :: t51 :: t52 :: t53 :: t54 :: t55 :: t56 :: t57 :: t58 :: t59 :: t60 :: t61 :: t62 :: t63 :: t64 :: t65 :: t66 :: t67 :: t68 :: t69 :: t70 :: t71 :: t72 :: t73 :: t74 :: t75 :: u76 :: u77 :: u78 :: u79 :: u80 :: u81 :: u82 :: u83 :: u84 :: u85 :: u86 :: u87 :: u88 :: u89 :: u90 :: u91 :: u92 :: u93 :: u94 :: u95 :: u96 :: u97 :: u98 :: u99 :: u100 :: u101 :: u102 :: u103 :: u104 :: u105 :: u106 :: u107 :: u108 :: u109 :: u110 :: u111 :: u112 :: u113 :: u114 :: u115 :: u116 :: u117 :: u118 :: u119 :: u120 :: u121 :: u122 :: u123 :: u124 :: u125 :: u126 :: u127 :: u128 :: u129 :: u130 :: u131 :: u132 :: u133 :: u134 :: u135 :: u136 :: u137 :: u138 :: u139 :: u140 :: u141 :: u142 :: u143 :: u144 :: u145 :: u146 :: u147 :: u148 :: u149 :: u150 :: u151 :: u152 :: u153 :: u154 :: u155 :: u156 :: u157 :: u158 :: u159 :: u160 :: u161 :: t162 :: t163 :: t164 :: t165 :: t166 :: t167 :: t168 :: t169 :: t170 :: t171 :: t172 :: t173 :: t174 :: t175 :: t176 :: t177 :: t178 :: t179 :: t180 :: t181 :: t182 :: t183 :: t184 :: t185 :: t186 :: t187 :: t188 :: t189 :: t190 :: t191 :: t192 :: t193 :: t194 :: t195 :: t196 :: t197 :: t198 :: t199 :: t200 :: t201 :: t202 :: t203 :: t204 :: t205 :: t206 :: t207 :: t208 :: t209 :: t210 :: t211 :: t212 :: t213 :: t214 :: t215 :: t216 :: t217 :: t218 :: t219 :: t220 :: t221 :: t222 :: t223 :: t224 :: t225 :: t226 :: t227 :: t228 :: t229 :: t230 :: t231 :: t232 :: t233 :: t234 :: t235 :: t236 :: t237 :: t238 :: t239 :: t240 :: t241 :: t242 :: t243 :: t244 :: t245 :: t246 :: t247 :: t248 :: t249 :: t250 :: t251 :: t252 :: t253 :: t254 :: t255 :: t256 :: t257 :: t258 :: t259 :: t260 :: t261 :: t262 :: t263 :: t264 :: t265 :: t266 :: t267 :: t268 :: t269 :: t270 :: t271 :: t272 :: t273 :: t274 :: t275 :: t276 :: t277 :: t278 :: t279 :: t280 :: t281 :: t282 :: t283 :: t284 :: t285 :: t286 :: t287 :: t288 :: t289 :: t290 :: t291 :: t292 :: t293 :: t294 :: t295 :: t296 :: t297 :: t298 :: t299 :: t300 :: t301 :: t302 :: t303 :: t304 :: t305 :: t306 :: t307 :: t308 :: t309 :: t310 :: t311 :: t312 :: t313 :: t314 :: t315 :: t316 :: t317 :: t318 :: t319 :: t320 :: t321 :: t322 :: t323 :: t324 :: t325 :: t326 :: t327 :: t328 :: t329 :: t330 :: t331 :: t332 :: t333 :: t334 :: t335 :: t336 :: t337 :: t338 :: t339 :: t340 :: t341 :: t342 :: t343 :: t344 :: t345 :: t346 :: t347 :: t348 :: t349 :: t350 :: t351 :: []).toArray, []⟩ w') :
    Code.wp Tryz.prog (Code.loop (loopN Tryz.f98 4)) Q ⟨(t0 :: t1 :: t2 :: t3 :: t4 :: t5 :: t6 :: t7 :: (.slice (some ⟨gm, 0, none⟩) zs.length cm) :: t9 :: t10 :: t11 :: t12 :: (.int .i64 (64 * (j : Int))) :: (.slice none 0 0) :: (.int .i64 0) :: t16 :: t17 :: t18 :: t19 :: t20 :: t21 :: t22 :: t23 :: t24 :: t25 :: t26 :: t27 :: t28 :: t29 :: t30 :: t31 :: t32 :: t33 :: t34 :: t35 :: t36 :: t37 :: t38 :: t39 :: t40 :: t41 :: t42 :: t43 :: t44 :: t45 :: t46 :: t47 :: t48 :: t49 :: t50 :: t51 :: t52 :: t53 :: t54 :: t55 :: t56 :: t57 :: t58 :: t59 :: t60 :: t61 :: t62 :: t63 :: t64 :: t65 :: t66 :: t67 :: t68 :: t69 :: t70 :: t71 :: t72 :: t73 :: t74 :: t75 :: t76 :: t77 :: t78 :: t79 :: t80 :: t81 :: t82 :: t83 :: t84 :: t85 :: t86 :: t87 :: t88 :: t89 :: t90 :: t91 :: t92 :: t93 :: t94 :: t95 :: t96 :: t97 :: t98 :: t99 :: t100 :: t101 :: t102 :: t103 :: t104 :: t105 :: t106 :: t107 :: t108 :: t109 :: t110 :: t111 :: t112 :: t113 :: t114 :: t115 :: t116 :: t117 :: t118 :: t119 :: t120 :: t121 :: t122 :: t123 :: t124 :: t125 :: t126 :: t127 :: t128 :: t129 :: t130 :: t131 :: t132 :: t133 :: t134 :: t135 :: t136 :: t137 :: t138 :: t139 :: t140 :: t141 :: t142 :: t143 :: t144 :: t145 :: t146 :: t147 :: t148 :: t149 :: t150 :: t151 :: t152 :: t153 :: t154 :: t155 :: t156 :: t157 :: t158 :: t159 :: t160 :: t161 :: t162 :: t163 :: t164 :: t165 :: t166 :: t167 :: t168 :: t169 :: t170 :: t171 :: t172 :: t173 :: t174 :: t175 :: t176 :: t177 :: t178 :: t179 :: t180 :: t181 :: t182 :: t183 :: t184 :: t185 :: t186 :: t187 :: t188 :: t189 :: t190 :: t191 :: t192 :: t193 :: t194 :: t195 :: t196 :: t197 :: t198 :: t199 :: t200 :: t201 :: t202 :: t203 :: t204 :: t205 :: t206 :: t207 :: t208 :: t209 :: t210 :: t211 :: t212 :: t213 :: t214 :: t215 :: t216 :: t217 :: t218 :: t219 :: t220 :: t221 :: t222 :: t223 :: t224 :: t225 :: t226 :: t227 :: t228 :: t229 :: t230 :: t231 :: t232 :: t233 :: t234 :: t235 :: t236 :: t237 :: t238 :: t239 :: t240 :: t241 :: t242 :: t243 :: t244 :: t245 :: t246 :: t247 :: t248 :: t249 :: t250 :: t251 :: t252 :: t253 :: t254 :: t255 :: t256 :: t257 :: t258 :: t259 :: t260 :: t261 :: t262 :: t263 :: t264 :: t265 :: t266 :: t267 :: t268 :: t269 :: t270 :: t271 :: t272 :: t273 :: t274 :: t275 :: t276 :: t277 :: t278 :: t279 :: t280 :: t281 :: t282 :: t283 :: t284 :: t285 :: t286 :: t287 :: t288 :: t289 :: t290 :: t291 :: t292 :: t293 :: t294 :: t295 :: t296 :: t297 :: t298 :: t299 :: t300 :: t301 :: t302 :: t303 :: t304 :: t305 :: t306 :: t307 :: t308 :: t309 :: t310 :: t311 :: t312 :: t313 :: t314 :: t315 :: t316 :: t317 :: t318 :: t319 :: t320 :: t321 :: t322 :: t323 :: t324 :: t325 :: t326 :: t327 :: t328 :: t329 :: t330 :: t331 :: t332 :: t333 :: t334 :: t335 :: t336 :: t337 :: t338 :: t339 :: t340 :: t341 :: t342 :: t343 :: t344 :: t345 :: t346 :: t347 :: t348 :: t349 :: t350 :: t351 :: []).toArray, []⟩ wb := by
  conv => arg 2; arg 1; whnf
  have HM := hid hm; have HLT := hid hlt
  clear hm hlt
  have hji : 64 * (j : Int) < (zs.length : Int) := by omega
  go_loopg [14, 15] 64 (fun g u i wr => ∃ t : Nat, t + g = 64 ∧ i = .int .i64 (t : Int) ∧ OwnU wr wb.heap.size u (wordsTo m t) ∧ Below wb.heap.size wb wr)
  case atStart => exact ⟨0, rfl, rfl, ownu_nil _ _, Below.refl _ _⟩
  case round =>
    obtain ⟨t, ht, rfl, ho, hb⟩ := hrel
    obtain ⟨wt, rfl⟩ : ∃ wt : World, wt = wr := ⟨_, rfl⟩
    obtain ⟨xs, hxs⟩ : ∃ xs, xs = wordsTo m t := ⟨_, rfl⟩
    rw [← hxs] at ho
    have hxl : xs.length = t := by rw [hxs]; exact wordsTo_length _ _
    unfold OwnU at ho
    rw [hxl] at ho
    have ht64 : t ≤ 64 := by omega
    have HT := hid ht; have HB := hid hb; have HXS := hid hxs; have HXL := hid hxl
    obtain ⟨A6, c6, rfl, hS6⟩ := own_sl ho
    have HO := hid ho; have HS6 := hid hS6.sq
    have hszt := hb.size
    clear ht hb hxs hxl ho hS6
    by_cases ht16 : t < 16
    · have hti : (t : Int) < 16 := by omega
      have hti64 : (t : Int) < 64 := by omega
      go_wp2
      go_loopg [16, 17] 4 (fun g x q wr => ∃ k y : Nat, k + g = 4 ∧ q = .int .i64 (k : Int) ∧ x = .int .u64 (y : Int) ∧ y = wk m t k ∧ wr = wt)
      case atStart => exact ⟨0, 0, rfl, rfl, rfl, rfl, rfl⟩
      case round =>
        obtain ⟨k, y, hk, rfl, rfl, hy, rfl⟩ := hrel
        have hyl : y < 256 ^ k := by rw [hy]; exact wk_lt _ _ _
        have HK := hid hk; have HY := hid hy
        have hk4 : k ≤ 4 := by omega
        clear hk hy
        by_cases hlt4 : k < 4
        · have hki : (k : Int) < 4 := by omega
          have hk0 : (0 : Int) ≤ (k : Int) := by omega
          have hyb : y < 16777216 := Nat.lt_of_lt_of_le hyl (Nat.pow_le_pow_right (show 256 > 0 by omega) (show k ≤ 3 by omega))
          obtain ⟨x, hx⟩ : ∃ x : UInt8, x = zs.getD (64 * j + (4 * t + k)) 0 := ⟨_, rfl⟩
          have hcx : wr.cell? ⟨gm, 0 + (64 * j + (4 * t + k)), none⟩ = some (.int .u8 (x.toNat : Int)) := by
            rw [hx]
            exact byte_cell (HLT.out.below (HB.out.mono hszb)) (by omega)
          have hx8 := x.toNat_lt
          have hcx' : wr.cell? ⟨gm, 64 * j + 4 * t + k, none⟩ = some (.int .u8 (x.toNat : Int)) := by
            rw [Nat.zero_add, ← Nat.add_assoc] at hcx; exact hcx
          have HX := hid hx
          clear hcx hx hyl
          go_wp2
          have hk := HK.out
          have hb64 : (zs.drop (64 * j)).length ≥ 64 := by rw [List.length_drop]; omega
          go_roundg (4 - k - 1)
          case measure => omega
          case rel => exact ⟨k + 1, 256 * y + x.toNat, by omega, by go_num, by go_num, by rw [wk, HY.out, HM.out, block_getD _ _ _ (by omega), HX.out], rfl⟩
        · obtain rfl : k = 4 := by omega
          have hki : ¬ ((4 : Nat) : Int) < 4 := by omega
          have hyw : y = word4 m t := by rw [HY.out, wk_end]
          have HYW := hid hyw
          clear hyl hyw HK HY
          have HO2' := hid (World.ownsRow.alloc HO.out (.cells #[.int .u64 (y : Int)] 53))
          go_wp2_with (at_builtin; go_loud (refine wpList_append_lie rfl (.tmp 99) (.tmp 101) 110 rfl wb.heap.size 53 (.int .u64 0) 8 Tryz.underlying110 infoU64 rfl rfl HO2'.out rfl rfl (Lie.new1 _ _ _) ?i0 ?i1 ?i2 ?i3 ?_))
          case i0 => intros; first | rfl | (rename_i hu; simp at hu; subst hu; rfl)
          case i1 => try rw [List.length_singleton]
                     unfold maxLen; omega
          case i2 => try rw [List.length_singleton]
                     omega
          case i3 => first | (simp; omega) | (simp; done) | omega 
          intro v5 w5 hown5 hg5 _
          have hO5 : OwnU w5 wb.heap.size v5 (wordsTo m (t + 1)) := by
            rw [wordsTo_low m t ht16, ← HXS.out, ← HYW.out]
            exact ownu_snoc hown5 (by rw [HXL.out]) rfl
          have hB5 : Below wb.heap.size wb w5 := (HB.out.alloc HB.out.size _).grown hg5 (by simp; omega) (fun q h => own_lt HO2'.out q h)
          have HO5 := hid hO5; have HB5 := hid hB5
          clear hown5 hg5 hO5 hB5 HO2'
          go_wp2
          have ht := HT.out
          go_roundg (64 - t - 1)
          case measure => omega
          case rel => exact ⟨t + 1, by omega, by go_num, HO5.out, HB5.out⟩
    · have hti : ¬ (t : Int) < 16 := by omega
      have ht0 : (16 : Int) ≤ (t : Int) := by omega
      by_cases htt : t < 64
      · have hti64 : (t : Int) < 64 := by omega
        obtain ⟨g6, c6', hv6, hg61, hg62, _, _⟩ := ownU_form HO.out (by omega)
        simp only [Value.slice.injEq, true_and] at hv6
        obtain ⟨rfl, rfl⟩ := hv6
        have hold : ∀ d, 0 < d → d ≤ 16 → ∃ x : Nat, x = xs.getD (t - d) 0 ∧ x < 4294967296 ∧ wt.cell? ⟨g6, t - d, none⟩ = some (.int .u64 (x : Int)) := fun d h0 hd =>
          ⟨_, rfl, by
            rw [List.getD_eq_getElem?_getD, List.getElem?_eq_getElem (show t - d < xs.length by rw [HXL.out]; omega)]
            exact wordsTo_lt m t _ (by rw [← HXS.out]; exact List.getElem_mem _), by
            have := word_cell HS6.out.lie (k := t - d) (by rw [HXL.out]; omega)
            rw [Nat.zero_add] at this; exact this⟩
        obtain ⟨x, hex, hx, hcx⟩ := hold 15 (by omega) (by omega)
        obtain ⟨y, hey, hy, hcy⟩ := hold 2 (by omega) (by omega)
        obtain ⟨p, hep, hp, hcp⟩ := hold 7 (by omega) (by omega)
        obtain ⟨q, heq, hq, hcq⟩ := hold 16 (by omega) (by omega)
        obtain ⟨x7, hx7⟩ : ∃ a, a = rotr x 7 := ⟨_, rfl⟩
        obtain ⟨x18, hx18⟩ : ∃ a, a = rotr x 18 := ⟨_, rfl⟩
        obtain ⟨x3, hx3⟩ : ∃ a, a = x / 2 ^ 3 := ⟨_, rfl⟩
        obtain ⟨y17, hy17⟩ : ∃ a, a = rotr y 17 := ⟨_, rfl⟩
        obtain ⟨y19, hy19⟩ : ∃ a, a = rotr y 19 := ⟨_, rfl⟩
        obtain ⟨y10, hy10⟩ : ∃ a, a = y / 2 ^ 10 := ⟨_, rfl⟩
        have HT7 := hid (turnR_l x 7 7 x7 hx (by omega) rfl hx7)
        have HT18 := hid (turnR_l x 18 18 x18 hx (by omega) rfl hx18)
        have HT3 := hid (shiftR_l x 3 3 x3 (by omega) (by omega) rfl hx3)
        have HT17 := hid (turnR_l y 17 17 y17 hy (by omega) rfl hy17)
        have HT19 := hid (turnR_l y 19 19 y19 hy (by omega) rfl hy19)
        have HT10 := hid (shiftR_l y 10 10 y10 (by omega) (by omega) rfl hy10)
        obtain ⟨a0, ha0⟩ : ∃ a, a = s0 x := ⟨_, rfl⟩
        obtain ⟨a1, ha1⟩ : ∃ a, a = s1 y := ⟨_, rfl⟩
        have ha0l : a0 < 4294967296 := by rw [ha0]; exact s0_lt x hx
        have ha1l : a1 < 4294967296 := by rw [ha1]; exact s1_lt y hy
        have e0 : bits .xor .u64 (bits .xor .u64 (x7 : Int) (x18 : Int)) (x3 : Int) = (a0 : Int) := by
          rw [xor3_u64 _ _ _ (by rw [hx7]; have := rotr_lt x 7 hx (by omega); omega) (by rw [hx18]; have := rotr_lt x 18 hx (by omega); omega) (by rw [hx3]; omega), ha0, hx7, hx18, hx3]; rfl
        have e1 : bits .xor .u64 (bits .xor .u64 (y17 : Int) (y19 : Int)) (y10 : Int) = (a1 : Int) := by
          rw [xor3_u64 _ _ _ (by rw [hy17]; have := rotr_lt y 17 hy (by omega); omega) (by rw [hy19]; have := rotr_lt y 19 hy (by omega); omega) (by rw [hy10]; omega), ha1, hy17, hy19, hy10]; rfl
        obtain ⟨u1, hu1⟩ : ∃ u, u = a1 + p := ⟨_, rfl⟩
        obtain ⟨u2, hu2⟩ : ∃ u, u = u1 + a0 := ⟨_, rfl⟩
        obtain ⟨u3, hu3⟩ : ∃ u, u = u2 + q := ⟨_, rfl⟩
        obtain ⟨r, hr⟩ : ∃ r, r = u3 % 4294967296 := ⟨_, rfl⟩
        have f1 : IntKind.u64.wrap ((a1 : Int) + (p : Int)) = (u1 : Int) := by rw [IntKind.wrap_u64]; omega
        have f2 : IntKind.u64.wrap ((u1 : Int) + (a0 : Int)) = (u2 : Int) := by rw [IntKind.wrap_u64]; omega
        have f3 : IntKind.u64.wrap ((u2 : Int) + (q : Int)) = (u3 : Int) := by rw [IntKind.wrap_u64]; omega
        have f4 : Int.tmod (u3 : Int) 4294967296 = (r : Int) := by rw [hr]; exact (Int.ofNat_tmod u3 4294967296).symm
        have hnext : r = (s1 y + p + s0 x + q) % 4294967296 := by rw [hr, hu3, hu2, hu1, ha0, ha1]
        have HX := hid hex; have HY := hid hey; have HP := hid hep; have HQ := hid heq; have HNEXT := hid hnext
        have q1 : IntKind.i64.wrap ((t : Int) - 7) = (t : Int) - 7 := IntWalk.i64_in _ (by omega)
        have q2 : (7 : Int) ≤ (t : Int) := by omega
        have q3 : (t : Int) - 7 < (t : Int) := by omega
        have q4 : ((t : Int) - 7).toNat = t - 7 := by omega
        have q5 : IntKind.i64.wrap ((t : Int) - 16) = (t : Int) - 16 := IntWalk.i64_in _ (by omega)
        have q6 : (16 : Int) ≤ (t : Int) := by omega
        have q7 : (t : Int) - 16 < (t : Int) := by omega
        have q8 : ((t : Int) - 16).toNat = t - 16 := by omega
        have q9 : IntKind.i64.wrap ((t : Int) - 2) = (t : Int) - 2 := IntWalk.i64_in _ (by omega)
        have q10 : (2 : Int) ≤ (t : Int) := by omega
        have q11 : (t : Int) - 2 < (t : Int) := by omega
        have q12 : ((t : Int) - 2).toNat = t - 2 := by omega
        have q13 : IntKind.i64.wrap ((t : Int) - 15) = (t : Int) - 15 := IntWalk.i64_in _ (by omega)
        have q14 : (15 : Int) ≤ (t : Int) := by omega
        have q15 : (t : Int) - 15 < (t : Int) := by omega
        have q16 : ((t : Int) - 15).toNat = t - 15 := by omega
        clear hold hex hey hep heq hx7 hx18 hx3 hy17 hy19 hy10 ha0 ha1 hu1 hu2 hu3 hr hnext ha0l ha1l
        go_wp2
        go_quiet (first | (go_at_call 119; first | with_reducible exact HT7.out _ _ | with_reducible exact HT18.out _ _) | (go_at_call 120; with_reducible exact HT3.out _ _))
        obtain ⟨wa, hwa⟩ : ∃ wa : World, wa = wt.drewN nq := ⟨_, rfl⟩
        replace hcy : wa.cell? ⟨g6, t - 2, none⟩ = some (.int .u64 (y : Int)) := by rw [hwa]; exact hcy
        replace hcp : wa.cell? ⟨g6, t - 7, none⟩ = some (.int .u64 (p : Int)) := by rw [hwa]; exact hcp
        replace hcq : wa.cell? ⟨g6, t - 16, none⟩ = some (.int .u64 (q : Int)) := by rw [hwa]; exact hcq
        rw [← hwa]
        have HWA := hid hwa
        clear hwa hcx
        go_wp2
        go_quiet (first | (go_at_call 119; first | with_reducible exact HT17.out _ _ | with_reducible exact HT19.out _ _) | (go_at_call 120; with_reducible exact HT10.out _ _))
        obtain ⟨wc, hwc⟩ : ∃ wc : World, wc = wa.drewN nq := ⟨_, rfl⟩
        replace hcp : wc.cell? ⟨g6, t - 7, none⟩ = some (.int .u64 (p : Int)) := by rw [hwc]; exact hcp
        replace hcq : wc.cell? ⟨g6, t - 16, none⟩ = some (.int .u64 (q : Int)) := by rw [hwc]; exact hcq
        rw [← hwc]
        have HWC := hid hwc
        clear hwc
        go_wp2
        refine wp_region_first_tail (.slice (some ⟨g6, 0, none⟩) t c6) 17 (by kernel_rfl) rfl (by kernel_rfl) (fun c a w h => hpan c a _ _ w h) (Or.inl ⟨by rfl, fun _ => rfl⟩) ?_
        simp only [List.drop_succ_cons, List.drop_zero, List.take_succ_cons, List.take_zero]
        go_simp
        repeat (quiet_step (fail))
        refine wpQuiet_nil ?_
        intro ne
        clear q1 q2 q3 q4 q5 q6 q7 q8 q9 q10 q11 q12 q13 q14 q15 q16 f1 f2 f3 f4 e0 e1 hcy hcp hcq
        obtain ⟨wq, hwq, hwn⟩ : ∃ wq : World, wq = wc.drewN ne ∧ ∃ n, wq = wt.drewN n := ⟨_, rfl, _, by rw [HWC.out, HWA.out, World.drewN_drewN, World.drewN_drewN]⟩
        rw [← hwq]
        have hBq : Below wb.heap.size wb wq := by obtain ⟨n, rfl⟩ := hwn; exact below_drewN HB.out n
        have hOq : wq.ownsRow wb.heap.size 53 1 (.slice (some ⟨g6, 0, none⟩) t c6) t (uvs xs) := by obtain ⟨n, rfl⟩ := hwn; exact HO.out
        have HO2' := hid (World.ownsRow.alloc hOq (.cells #[.int .u64 (r : Int)] 53))
        have HBQ := hid hBq
        clear hwq hwn hBq hOq HT7 HT18 HT3 HT17 HT19 HT10
        go_wp2_with (at_builtin; go_loud (refine wpList_append_lie rfl (.tmp 143) (.tmp 160) 110 rfl wb.heap.size 53 (.int .u64 0) 8 Tryz.underlying110 infoU64 rfl rfl HO2'.out rfl rfl (Lie.new1 _ _ _) ?l0 ?l1 ?l2 ?l3 ?_))
        case l0 => intros; first | rfl | (rename_i hu; simp at hu; subst hu; rfl)
        case l1 => try rw [List.length_singleton]
                   unfold maxLen; omega
        case l2 => try rw [List.length_singleton]
                   omega
        case l3 => (have := HBQ.out.size; simp; omega)
        intro v5 w5 hown5 hg5 _
        have hO5 : OwnU w5 wb.heap.size v5 (wordsTo m (t + 1)) := by
          rw [wordsTo_high m t ht16, ← HXS.out, ← HX.out, ← HY.out, ← HP.out, ← HQ.out, ← HNEXT.out]
          exact ownu_snoc hown5 (by rw [HXL.out]) rfl
        have hB5 : Below wb.heap.size wb w5 := (HBQ.out.alloc HBQ.out.size _).grown hg5 (by have := HBQ.out.size; simp; omega) (fun q h => own_lt HO2'.out q h)
        have HO5 := hid hO5; have HB5 := hid hB5
        clear hown5 hg5 hO5 hB5 HO2'
        go_wp2
        have ht := HT.out
        go_roundg (64 - t - 1)
        case measure => omega
        case rel => exact ⟨t + 1, by omega, by go_num, HO5.out, HB5.out⟩
      · obtain rfl : t = 64 := by omega
        have hti64 : ¬ ((64 : Nat) : Int) < 64 := by omega
        have ho : OwnU wt wb.heap.size (.slice A6 64 c6) (wordsTo m 64) := by
          rw [← HXS.out]
          have h := HO.out
          unfold OwnU
          rw [HXL.out]
          exact h
        have HO6 := hid ho
        clear ho HO HS6 HXS HXL
        go_wp2
        exact hexit _ wt _ _ _ _ _ _ _ _ _ _ _ _ _ _ _ _ _ _ _ _ _ _ _ _ _ _ _ _ _ _ _ _ _ _ _ _ _ _ _ _ _ _ _ _ _ _ _ _ _ _ _ _ _ _ _ _ _ _ _ _ _ _ _ _ _ _ _ _ _ _ _ _ _ _ _ _ _ _ _ _ _ _ _ _ _ _ _ _ _ _ _ HO6.out HB.out
end
section
open Go.RowKit
set_option linter.unusedVariables false
set_option linter.unusedSimpArgs false
set_option maxRecDepth 100000 in
set_option maxHeartbeats 4000000 in
theorem blocks_loop {Q : Exit → Act → World → Prop} (A2 : Option Addr) (c2 gh ch gm cm nb : Nat) (K : List Nat) (s : St8) (zs : List UInt8) (w0 : World) (t0 t1 t3 t4 t5 t6 t9 t10 t11 t12 t14 t15 t16 t17 t18 t19 t20 t21 t22 t23 t24 t25 t26 t27 t28 t29 t30 t31 t32 t33 t34 t35 t36 t37 t38 t39 t40 t41 t42 t43 t44 t45 t46 t47 t48 t49 t50 t51 t52 t53 t54 t55 t56 t57 t58 t59 t60 t61 t62 t63 t64 t65 t66 t67 t68 t69 t70 t71 t72 t73 t74 t75 t76 t77 t78 t79 t80 t81 t82 t83 t84 t85 t86 t87 t88 t89 t90 t91 t92 t93 t94 t95 t96 t97 t98 t99 t100 t101 t102 t103 t104 t105 t106 t107 t108 t109 t110 t111 t112 t113 t114 t115 t116 t117 t118 t119 t120 t121 t122 t123 t124 t125 t126 t127 t128 t129 t130 t131 t132 t133 t134 t135 t136 t137 t138 t139 t140 t141 t142 t143 t144 t145 t146 t147 t148 t149 t150 t151 t152 t153 t154 t155 t156 t157 t158 t159 t160 t161 t162 t163 t164 t165 t166 t167 t168 t169 t170 t171 t172 t173 t174 t175 t176 t177 t178 t179 t180 t181 t182 t183 t184 t185 t186 t187 t188 t189 t190 t191 t192 t193 t194 t195 t196 t197 t198 t199 t200 t201 t202 t203 t204 t205 t206 t207 t208 t209 t210 t211 t212 t213 t214 t215 t216 t217 t218 t219 t220 t221 t222 t223 t224 t225 t226 t227 t228 t229 t230 t231 t232 t233 t234 t235 t236 t237 t238 t239 t240 t241 t242 t243 t244 t245 t246 t247 t248 t249 t250 t251 t252 t253 t254 t255 t256 t257 t258 t259 t260 t261 t262 t263 t264 t265 t266 t267 t268 t269 t270 t271 t272 t273 t274 t275 t276 t277 t278 t279 t280 t281 t282 t283 t284 t285 t286 t287 t288 t289 t290 t291 t292 t293 t294 t295 t296 t297 t298 t299 t300 t301 t302 t303 t304 t305 t306 t307 t308 t309 t310 t311 t312 t313 t314 t315 t316 t317 t318 t319 t320 t321 t322 t323 t324 t325 t326 t327 t328 t329 t330 t331 t332 t333 t334 t335 t336 t337 t338 t339 t340 t341 t342 t343 t344 t345 t346 t347 t348 t349 t350 t351 : Value)
    (hpan : ∀ c (a : Act) (k : Tmp) (x : Value) (w : World), Q (.panic c) (a.put (some k) x) w → Q (.panic c) a w)
    (hs : s.ok) (hKl : K.length = 64) (hKm : ∀ k, K.getD k 0 < 4294967296) (hnb : zs.length = 64 * nb) (hzs40 : zs.length < 1099511627900) (hzc : zs.length ≤ cm) (hch : 8 ≤ ch)
    (hne : gh ≠ gm) (hlt : Lie w0 w0.heap.size (some ⟨gm, 0, none⟩) (bvs zs)) (hks : Sq w0 w0.heap.size A2 c2 (uvs K)) (hnk : NotIn A2 (uvs K) gh) (hrs : RowU w0 gh s.list)
    (hexit : ∀ (w' : World) (u13 u14 u15 u16 u17 u18 u19 u20 u21 u22 u23 u24 u25 u26 u27 u28 u70 u71 u72 u73 u74 u75 u76 u77 u78 u79 u80 u81 u82 u83 u84 u85 u86 u87 u88 u89 u90 u91 u92 u93 u94 u95 u96 u97 u98 u99 u100 u101 u102 u103 u104 u105 u106 u107 u108 u109 u110 u111 u112 u113 u114 u115 u116 u117 u118 u119 u120 u121 u122 u123 u124 u125 u126 u127 u128 u129 u130 u131 u132 u133 u134 u135 u136 u137 u138 u139 u140 u141 u142 u143 u144 u145 u146 u147 u148 u149 u150 u151 u152 u153 u154 u155 u156 u157 u158 u159 u160 u161 u162 u163 u164 u165 u166 u167 u168 u169 u170 u171 u172 u173 u174 u175 u176 u177 u178 u179 u180 u181 u182 u183 u184 u185 u186 u187 u188 u189 u190 u191 u192 u193 u194 u195 u196 u197 u198 u199 u200 u201 u202 u203 u204 u205 u206 u207 u208 u209 u210 u211 u212 u213 u214 u215 u216 u217 u218 u219 u220 u221 u222 u223 u224 u225 u226 u227 u228 u229 u230 u231 u232 u233 u234 u235 u236 u237 u238 u239 u240 u241 u242 u243 u244 u245 u246 u247 u248 u249 u250 u251 u252 u253 u254 u255 u256 u257 u258 u259 u260 u261 u262 u263 u264 u265 u266 u267 u268 u269 u270 u271 u272 u273 u274 u275 u276 u277 u278 u279 u280 u281 u282 u283 u284 u285 u286 u287 u288 u289 u290 u291 u292 u293 u294 u295 u296 u297 u298 u299 u300 u301 u302 u303 u304 u305 u306 u307 u308 u309 u310 u311 u312 u313 u314 u315 u316 u317 : Value), RowU w' gh (blocksN K nb s zs).list → w0.grownBy w' (some gh) → Q (.exit 6) ⟨(t0 :: t1 :: (.slice A2 64 c2) :: t3 :: t4 :: t5 :: t6 :: (.slice (some ⟨gh, 0, none⟩) 8 ch) :: (.slice (some ⟨gm, 0, none⟩) zs.length cm) :: t9 :: t10 :: t11 :: t12 :: u13 :: u14 :: u15 :: u16 :: u17 :: u18 :: u19 :: u20 :: u21 :: u22 :: u23 :: u24 :: u25 :: u26 :: u27 :: u28 :: t29 :: t30 :: t31 :: t32 :: t33 :: t34 :: t35 :: t36 :: t37 :: t38 :: t39 :: t40 :: t41 :: t42 :: t43 :: t44 :: t45 :: t46 :: t47 :: t48 :: t49 :: t50 :: t51 :: t52 :: t53 :: t54 :: t55 :: t56 :: t57 :: t58 :: t59 :: t60 :: t61 :: t62 :: t63 :: t64 :: t65 :: t66 :: t67 :: t68 :: t69 :: u70 :: u71 :: u72 :: u73 :: u74 :: u75 :: u76 :: u77 :: u78 :: u79 :: u80 :: u81 :: u82 :: u83 :: u84 :: u85 :: u86 :: u87 :: u88 :: u89 :: u90 :: u91 :: u92 :: u93 :: u94 :: u95 :: u96 :: u97 :: u98 :: u99 :: u100 :: u101 :: u102 :: u103 :: u104 :: u105 :: u106 :: u107 :: u108 :: u109 :: u110 :: u111 :: u112 :: u113 :: u114 :: u115 :: u116 :: u117 :: u118 :: u119 :: u120 :: u121 :: u122 :: u123 :: u124 :: u125 :: u126 :: u127 :: u128 :: u129 :: u130 :: u131 :: u132 :: u133 :: u134 :: u135 :: u136 :: u137 :: u138 :: u139 :: u140 :: u141 :: u142 :: u143 :: u144 :: u145 :: u146 :: u147 :: u148 :: u149 :: u150 :: u151 :: u152 :: u153 :: u154 :: u155 :: u156 :: u157 :: u158 :: u159 :: u160 :: u161 :: u162 :: u163 :: u164 :: u165 :: u166 :: u167 :: u168 :: u169 :: u170 :: u171 :: u172 :: u173 :: u174 :: u175 :: u176 :: u177 :: u178 :: u179 :: u180 :: u181 :: u182 :: u183 :: u184 :: u185 :: u186 :: u187 :: u188 :: u189 :: u190 :: u191 :: u192 :: u193 :: u194 :: u195 :: u196 :: u197 :: u198 :: u199 :: u200 :: u201 :: u202 :: u203 :: u204 :: u205 :: u206 :: u207 :: u208 :: u209 :: u210 :: u211 :: u212 :: u213 :: u214 :: u215 :: u216 :: u217 :: u218 :: u219 :: u220 :: u221 :: u222 :: u223 :: u224 :: u225 :: u226 :: u227 :: u228 :: u229 :: u230 :: u231 :: u232 :: u233 :: u234 :: u235 :: u236 :: u237 :: u238 :: u239 :: u240 :: u241 :: u242 :: u243 :: u244 :: u245 :: u246 :: u247 :: u248 :: u249 :: u250 :: u251 :: u252 :: u253 :: u254 :: u255 :: u256 :: u257 :: u258 :: u259 :: u260 :: u261 :: u262 :: u263 :: u264 :: u265 :: u266 :: u267 :: u268 :: u269 :: u270 :: u271 :: u272 :: u273 :: u274 :: u275 :: u276 :: u277 :: u278 :: u279 :: u280 :: u281 :: u282 :: u283 :: u284 :: u285 :: u286 :: u287 :: u288 :: u289 :: u290 :: u291 :: u292 :: u293 :: u294 :: u295 :: u296 :: u297 :: u298 :: u299 :: u300 :: u301 :: u302 :: u303 :: u304 :: u305 :: u306 :: u307 :: u308 :: u309 :: u310 :: u311 :: u312 :: u313 :: u314 :: u315 :: u316 :: u317 :: t318 :: t319 :: t320 :: t321 :: t322 :: t323 :: t324 :: t325 :: t326 :: t327 :: t328 :: t329 :: t330 :: t331 :: t332 :: t333 :: t334 :: t335 :: t336 :: t337 :: t338 :: t339 :: t340 :: t341 :: t342 :: t343 :: t344 :: t345 :: t346 :: t347 :: t348 :: t349 :: t350 :: t351 :: []).toArray, []⟩ w') :
    Code.wp Tryz.prog (Code.loop (loopN Tryz.f98 3)) Q ⟨(t0 :: t1 :: (.slice A2 64 c2) :: t3 :: t4 :: t5 :: t6 :: (.slice (some ⟨gh, 0, none⟩) 8 ch) :: (.slice (some ⟨gm, 0, none⟩) zs.length cm) :: t9 :: t10 :: t11 :: t12 :: (.int .i64 0) :: t14 :: t15 :: t16 :: t17 :: t18 :: t19 :: t20 :: t21 :: t22 :: t23 :: t24 :: t25 :: t26 :: t27 :: t28 :: t29 :: t30 :: t31 :: t32 :: t33 :: t34 :: t35 :: t36 :: t37 :: t38 :: t39 :: t40 :: t41 :: t42 :: t43 :: t44 :: t45 :: t46 :: t47 :: t48 :: t49 :: t50 :: t51 :: t52 :: t53 :: t54 :: t55 :: t56 :: t57 :: t58 :: t59 :: t60 :: t61 :: t62 :: t63 :: t64 :: t65 :: t66 :: t67 :: t68 :: t69 :: t70 :: t71 :: t72 :: t73 :: t74 :: t75 :: t76 :: t77 :: t78 :: t79 :: t80 :: t81 :: t82 :: t83 :: t84 :: t85 :: t86 :: t87 :: t88 :: t89 :: t90 :: t91 :: t92 :: t93 :: t94 :: t95 :: t96 :: t97 :: t98 :: t99 :: t100 :: t101 :: t102 :: t103 :: t104 :: t105 :: t106 :: t107 :: t108 :: t109 :: t110 :: t111 :: t112 :: t113 :: t114 :: t115 :: t116 :: t117 :: t118 :: t119 :: t120 :: t121 :: t122 :: t123 :: t124 :: t125 :: t126 :: t127 :: t128 :: t129 :: t130 :: t131 :: t132 :: t133 :: t134 :: t135 :: t136 :: t137 :: t138 :: t139 :: t140 :: t141 :: t142 :: t143 :: t144 :: t145 :: t146 :: t147 :: t148 :: t149 :: t150 :: t151 :: t152 :: t153 :: t154 :: t155 :: t156 :: t157 :: t158 :: t159 :: t160 :: t161 :: t162 :: t163 :: t164 :: t165 :: t166 :: t167 :: t168 :: t169 :: t170 :: t171 :: t172 :: t173 :: t174 :: t175 :: t176 :: t177 :: t178 :: t179 :: t180 :: t181 :: t182 :: t183 :: t184 :: t185 :: t186 :: t187 :: t188 :: t189 :: t190 :: t191 :: t192 :: t193 :: t194 :: t195 :: t196 :: t197 :: t198 :: t199 :: t200 :: t201 :: t202 :: t203 :: t204 :: t205 :: t206 :: t207 :: t208 :: t209 :: t210 :: t211 :: t212 :: t213 :: t214 :: t215 :: t216 :: t217 :: t218 :: t219 :: t220 :: t221 :: t222 :: t223 :: t224 :: t225 :: t226 :: t227 :: t228 :: t229 :: t230 :: t231 :: t232 :: t233 :: t234 :: t235 :: t236 :: t237 :: t238 :: t239 :: t240 :: t241 :: t242 :: t243 :: t244 :: t245 :: t246 :: t247 :: t248 :: t249 :: t250 :: t251 :: t252 :: t253 :: t254 :: t255 :: t256 :: t257 :: t258 :: t259 :: t260 :: t261 :: t262 :: t263 :: t264 :: t265 :: t266 :: t267 :: t268 :: t269 :: t270 :: t271 :: t272 :: t273 :: t274 :: t275 :: t276 :: t277 :: t278 :: t279 :: t280 :: t281 :: t282 :: t283 :: t284 :: t285 :: t286 :: t287 :: t288 :: t289 :: t290 :: t291 :: t292 :: t293 :: t294 :: t295 :: t296 :: t297 :: t298 :: t299 :: t300 :: t301 :: t302 :: t303 :: t304 :: t305 :: t306 :: t307 :: t308 :: t309 :: t310 :: t311 :: t312 :: t313 :: t314 :: t315 :: t316 :: t317 :: t318 :: t319 :: t320 :: t321 :: t322 :: t323 :: t324 :: t325 :: t326 :: t327 :: t328 :: t329 :: t330 :: t331 :: t332 :: t333 :: t334 :: t335 :: t336 :: t337 :: t338 :: t339 :: t340 :: t341 :: t342 :: t343 :: t344 :: t345 :: t346 :: t347 :: t348 :: t349 :: t350 :: t351 :: []).toArray, []⟩ w0 := by
  conv => arg 2; arg 1; whnf
  have HS := hid hs; have HKL := hid hKl; have HKM := hid hKm; have HNB := hid hnb; have HLT := hid hlt; have HKS := hid hks; have HNK := hid hnk; have HRS := hid hrs
  have hghl : gh < w0.heap.size := hrs.lt
  clear hs hKl hKm hnb hlt hks hnk hrs
  go_loopg [13] nb (fun g u wr => ∃ j : Nat, j + g = nb ∧ u = .int .i64 (64 * (j : Int)) ∧ RowU wr gh (blocksN K j s zs).list ∧ w0.grownBy wr (some gh))
  case atStart => exact ⟨0, by omega, rfl, HRS.out, World.grownBy.refl _ _⟩
  case round =>
    clear HRS
    obtain ⟨j, hj, rfl, hru, hg⟩ := hrel
    obtain ⟨wb, rfl⟩ : ∃ wb : World, wb = wr := ⟨_, rfl⟩
    have hszb : w0.heap.size ≤ wb.heap.size := hg.size
    have hltb : Lie wb w0.heap.size (some ⟨gm, 0, none⟩) (bvs zs) := (Sq.other (HLT.out.sq (c := zs.length) (by rw [bvs_length]; exact Nat.le_refl _) (by omega)) hg (Nat.le_refl _) (fun _ b o sp e => by simp at e; omega)).lie
    have hksb : Sq wb w0.heap.size A2 c2 (uvs K) := Sq.other HKS.out hg (Nat.le_refl _) HNK.out
    have HJ := hid hj; have HRU := hid hru; have HG := hid hg; have HLTB := hid hltb; have HKSB := hid hksb
    clear hru hg hltb hksb
    by_cases hjn : j < nb
    · have hjz : 64 * j + 64 ≤ zs.length := by rw [HNB.out]; omega
      have hji : 64 * (j : Int) < (zs.length : Int) := by omega
      obtain ⟨v0, hv0⟩ : ∃ v, v = blocksN K j s zs := ⟨_, rfl⟩
      have hvo : v0.ok := by rw [hv0]; exact blocksN_okay _ _ _ _ HS.out
      obtain ⟨m, hm⟩ : ∃ m, m = (zs.drop (64 * j)).take 64 := ⟨_, rfl⟩
      have HRV : Hid (RowU wb gh v0.list) := hid (by rw [hv0]; exact HRU.out)
      have HM := hid hm; have HV0 := hid hv0; have HVO := hid hvo
      clear hexit hj hm hv0 hvo HRU
      go_wp2
      refine words_loop gm cm j w0.heap.size zs m wb _ _ _ _ _ _ _ _ _ _ _ _ _ _ _ _ _ _ _ _ _ _ _ _ _ _ _ _ _ _ _ _ _ _ _ _ _ _ _ _ _ _ _ _ _ _ _ _ _ _ _ _ _ _ _ _ _ _ _ _ _ _ _ _ _ _ _ _ _ _ _ _ _ _ _ _ _ _ _ _ _ _ _ _ _ _ _ _ _ _ _ _ _ _ _ _ _ _ _ _ _ _ _ _ _ _ _ _ _ _ _ _ _ _ _ _ _ _ _ _ _ _ _ _ _ _ _ _ _ _ _ _ _ _ _ _ _ _ _ _ _ _ _ _ _ _ _ _ _ _ _ _ _ _ _ _ _ _ _ _ _ _ _ _ _ _ _ _ _ _ _ _ _ _ _ _ _ _ _ _ _ _ _ _ _ _ _ _ _ _ _ _ _ _ _ _ _ _ _ _ _ _ _ _ _ _ _ _ _ _ _ _ _ _ _ _ _ _ _ _ _ _ _ _ _ _ _ _ _ _ _ _ _ _ _ _ _ _ _ _ _ _ _ _ _ _ _ _ _ _ _ _ _ _ _ _ _ _ _ _ _ _ _ _ _ _ _ _ _ _ _ _ _ _ _ _ _ _ _ _ _ _ _ _ _ _ _ _ _ _ _ _ _ _ _ _ _ _ _ _ _ _ _ _ _ _ _ _ _ _ _ _ _ _ _ _ _ _ _ _ _ _ _ _ _ _ _ _ _ _ _ _ _ _ _ _ _ _ _ _ _ _ _ _ _ _ _ _ (fun c a k x w h => hpan c a k x w h) hzs40 hjz hzc HLTB.out hszb HM.out ?_
      intro v w1 u15 u16 u17 u18 u19 u76 u77 u78 u79 u80 u81 u82 u83 u84 u85 u86 u87 u88 u89 u90 u91 u92 u93 u94 u95 u96 u97 u98 u99 u100 u101 u102 u103 u104 u105 u106 u107 u108 u109 u110 u111 u112 u113 u114 u115 u116 u117 u118 u119 u120 u121 u122 u123 u124 u125 u126 u127 u128 u129 u130 u131 u132 u133 u134 u135 u136 u137 u138 u139 u140 u141 u142 u143 u144 u145 u146 u147 u148 u149 u150 u151 u152 u153 u154 u155 u156 u157 u158 u159 u160 u161 ho1 hb1
      obtain ⟨g6, c6, rfl, hg61, hg62, hc61, hc62⟩ := ownU_form ho1 (by rw [wordsTo_length]; omega)
      rw [wordsTo_length] at hc61
      have hxs1 : Lie w1 w1.heap.size (some ⟨g6, 0, none⟩) (uvs (wordsTo m 64)) := (Lie.of_own ho1)
      have hsz1 : wb.heap.size ≤ w1.heap.size := hb1.size
      have hks1 : Sq w1 w1.heap.size A2 c2 (uvs K) := (HKSB.out.below (hb1.mono hszb)).more (by omega)
      have hrv1 : RowU w1 gh v0.list := HRV.out.keep (hb1.block gh HRV.out.lt)
      have hlh : Lie (w1.alloc (.cells #[] 53)) w1.heap.size (some ⟨gh, 0, none⟩) (uvs v0.list) := ((hrv1.lie).more (by have := hrv1.lt; omega)).alloc (Nat.le_refl _) _
      have HXS1 := hid hxs1; have HB1 := hid hb1; have HKS1 := hid hks1; have HRV1 := hid hrv1; have HLH := hid hlh
      rw [wordsTo_length]
      clear ho1 hb1 hxs1 hks1 hrv1 hlh HRV
      go_wp2_with (at_builtin; go_loud (refine wpList_append_lie rfl (.tmp 162) (.tmp 163) 110 rfl w1.heap.size 53 (.int .u64 0) 8 Tryz.underlying110 infoU64 rfl rfl (emptyR_row _ _ (k := w1.heap.size) rfl (Nat.le_refl _)) (uvs_length v0.list) rfl HLH.out (uvs_one _) ?k1 (by rw [St8.list_length]; omega) (by simp) ?_))
      case k1 => (rw [St8.list_length]; unfold maxLen; omega)
      intro v6 w6 hown6 hg6 _
      obtain ⟨gv, cv, rfl, hgv, hgvl, hcv, hcv2⟩ := ownU_form hown6 (by omega)
      have hb6 : Below w1.heap.size w1 w6 := ((Below.refl _ _).alloc (Nat.le_refl _) _).grown hg6 (by simp) (fun q h => by simp [Value.ownBlock] at h; omega)
      have hru6 := RowU.of_own hown6
      have HB6 := hid hb6; have HRU6 := hid hru6
      clear hown6 hg6 hb6 hru6 HLH
      go_wp2
      refine rounds_loop A2 c2 g6 c6 gv cv K (wordsTo m 64) v0 w1 w6 _ _ _ _ _ _ _ _ _ _ _ _ _ _ _ _ _ _ _ _ _ _ _ _ _ _ _ _ _ _ _ _ _ _ _ _ _ _ _ _ _ _ _ _ _ _ _ _ _ _ _ _ _ _ _ _ _ _ _ _ _ _ _ _ _ _ _ _ _ _ _ _ _ _ _ _ _ _ _ _ _ _ _ _ _ _ _ _ _ _ _ _ _ _ _ _ _ _ _ _ _ _ _ _ _ _ _ _ _ _ _ _ _ _ _ _ _ _ _ _ _ _ _ _ _ _ _ _ _ _ _ _ _ _ _ _ _ _ _ _ _ _ _ _ _ _ _ _ _ _ _ _ _ _ _ _ _ _ _ _ _ _ _ _ _ _ _ _ _ _ _ _ _ _ _ _ _ _ _ _ _ _ _ _ _ _ _ _ _ _ _ _ _ _ _ _ _ _ _ _ _ _ _ _ _ _ _ _ _ _ _ _ _ _ _ _ _ _ _ _ _ _ _ _ _ _ _ _ _ _ _ _ _ _ _ _ _ _ _ _ _ _ _ _ _ _ _ _ _ _ _ _ _ _ _ _ _ _ _ _ _ _ _ _ _ _ _ _ _ _ _ _ _ _ _ _ _ _ _ _ _ _ _ _ _ _ _ _ _ _ _ _ _ _ _ _ _ _ _ _ _ _ _ _ _ _ _ _ _ _ _ _ _ _ _ _ _ _ _ _ _ _ _ _ _ _ _ _ _ _ _ _ _ _ _ _ _ _ _ _ _ _ _ _ _ _ _ _ (wordsTo_length _ _) HKL.out HVO.out HKM.out ?hXm hcv hcv2 HRU6.out hgv HB6.out HKS1.out HXS1.out hc61 ?_
      case hXm =>
        intro k
        by_cases hk : k < (wordsTo m 64).length
        · rw [List.getD_eq_getElem?_getD, List.getElem?_eq_getElem hk]
          exact wordsTo_lt m 64 _ (List.getElem_mem hk)
        · rw [List.getD_eq_getElem?_getD, List.getElem?_eq_none (by omega)]; decide
      intro gq cq w7 u21 u22 u23 u24 u25 u26 u27 u165 u166 u167 u168 u169 u170 u171 u172 u173 u174 u175 u176 u177 u178 u179 u180 u181 u182 u183 u184 u185 u186 u187 u188 u189 u190 u191 u192 u193 u194 u195 u196 u197 u198 u199 u200 u201 u202 u203 u204 u205 u206 u207 u208 u209 u210 u211 u212 u213 u214 u215 u216 u217 u218 u219 u220 u221 u222 u223 u224 u225 u226 u227 u228 u229 u230 u231 u232 u233 u234 u235 u236 u237 u238 u239 u240 u241 u242 u243 u244 u245 u246 u247 u248 u249 u250 u251 u252 u253 u254 u255 u256 u257 u258 u259 u260 u261 u262 u263 u264 u265 u266 u267 u268 u269 u270 u271 u272 u273 u274 u275 u276 u277 u278 u279 u280 u281 u282 u283 u284 u285 u286 u287 u288 u289 u290 u291 u292 u293 u294 u295 u296 u297 u298 u299 u300 hru7 hgq hcq1 hcq2 hb7
      have hrv7 : RowU w7 gh v0.list := HRV1.out.keep (hb7.block gh HRV1.out.lt)
      have hghw : gh < w1.heap.size := HRV1.out.lt
      have HRU7 := hid hru7; have HB7 := hid hb7; have HRV7 := hid hrv7
      clear hru7 hb7 hrv7 HRU6 HB6
      go_wp2
      refine plus_loop gh ch gq cq v0 (rnd K (wordsTo m 64) v0 64) w7 _ _ _ _ _ _ _ _ _ _ _ _ _ _ _ _ _ _ _ _ _ _ _ _ _ _ _ _ _ _ _ _ _ _ _ _ _ _ _ _ _ _ _ _ _ _ _ _ _ _ _ _ _ _ _ _ _ _ _ _ _ _ _ _ _ _ _ _ _ _ _ _ _ _ _ _ _ _ _ _ _ _ _ _ _ _ _ _ _ _ _ _ _ _ _ _ _ _ _ _ _ _ _ _ _ _ _ _ _ _ _ _ _ _ _ _ _ _ _ _ _ _ _ _ _ _ _ _ _ _ _ _ _ _ _ _ _ _ _ _ _ _ _ _ _ _ _ _ _ _ _ _ _ _ _ _ _ _ _ _ _ _ _ _ _ _ _ _ _ _ _ _ _ _ _ _ _ _ _ _ _ _ _ _ _ _ _ _ _ _ _ _ _ _ _ _ _ _ _ _ _ _ _ _ _ _ _ _ _ _ _ _ _ _ _ _ _ _ _ _ _ _ _ _ _ _ _ _ _ _ _ _ _ _ _ _ _ _ _ _ _ _ _ _ _ _ _ _ _ _ _ _ _ _ _ _ _ _ _ _ _ _ _ _ _ _ _ _ _ _ _ _ _ _ _ _ _ _ _ _ _ _ _ _ _ _ _ _ _ _ _ _ _ _ _ _ _ _ _ _ _ _ _ _ _ _ _ _ _ _ _ _ _ _ _ _ _ _ _ _ _ _ _ _ _ _ _ _ _ _ _ _ _ _ _ _ _ _ _ _ _ _ _ _ _ _ _ _ _ HVO.out (rnd_ok _ _ _ HVO.out _) hch hcq1 (by omega) HRV7.out HRU7.out ?_
      intro w8 u28 u301 u302 u303 u304 u305 u306 u307 u308 u309 u310 u311 u312 u313 u314 u315 u316 u317 hru8 hg8
      have hfin : RowU w8 gh (blocksN K (j + 1) s zs).list := by
        rw [blocksN_next, ← HM.out, ← HV0.out]
        exact hru8
      have hgf : w0.grownBy w8 (some gh) := by
        have h1 : w0.grownBy w1 (some gh) := grown_step HG.out (.inl rfl) (grown_none ⟨HB1.out.os, HB1.out.tape, HB1.out.output, HB1.out.size, fun k hk _ => HB1.out.block k hk⟩ _)
        have h2 : w0.grownBy w7 (some gh) := grown_step h1 (.inl rfl) (grown_none ⟨HB7.out.os, HB7.out.tape, HB7.out.output, HB7.out.size, fun k hk _ => HB7.out.block k hk⟩ _)
        exact grown_step h2 (.inl rfl) hg8
      have HFIN := hid hfin; have HGF := hid hgf
      clear hru8 hg8 hfin hgf HRV7 HRU7 HB7 HRV1 HXS1 HKS1 HB1
      have haw : IntKind.i64.wrap (64 * (j : Int) + 64) = 64 * ((j + 1 : Nat) : Int) := by rw [show 64 * ((j + 1 : Nat) : Int) = 64 * (j : Int) + 64 by omega]; exact IntWalk.i64_in _ (by omega)
      have haw2 : (64 * (j : Int) + 64) = 64 * ((j + 1 : Nat) : Int) := by omega
      have HAW := hid haw2
      clear haw haw2
      go_wp2
      have hj := HJ.out
      go_roundg (nb - j - 1)
      case measure => omega
      case rel => exact ⟨j + 1, by omega, by rw [← HAW.out], HFIN.out, HGF.out⟩
    · obtain rfl : j = nb := by omega
      have hji : ¬ 64 * (j : Int) < (zs.length : Int) := by rw [HNB.out]; omega
      clear HJ
      go_wp2
      exact hexit wb _ _ _ _ _ _ _ _ _ _ _ _ _ _ _ _ _ _ _ _ _ _ _ _ _ _ _ _ _ _ _ _ _ _ _ _ _ _ _ _ _ _ _ _ _ _ _ _ _ _ _ _ _ _ _ _ _ _ _ _ _ _ _ _ _ _ _ _ _ _ _ _ _ _ _ _ _ _ _ _ _ _ _ _ _ _ _ _ _ _ _ _ _ _ _ _ _ _ _ _ _ _ _ _ _ _ _ _ _ _ _ _ _ _ _ _ _ _ _ _ _ _ _ _ _ _ _ _ _ _ _ _ _ _ _ _ _ _ _ _ _ _ _ _ _ _ _ _ _ _ _ _ _ _ _ _ _ _ _ _ _ _ _ _ _ _ _ _ _ _ _ _ _ _ _ _ _ _ _ _ _ _ _ _ _ _ _ _ _ _ _ _ _ _ _ _ _ _ _ _ _ _ _ _ _ _ _ _ _ _ _ _ _ _ _ _ _ _ _ _ _ _ _ _ _ _ _ _ _ _ _ _ _ _ _ _ _ _ _ _ _ _ _ _ _ _ _ _ _ _ _ _ _ _ _ _ _ _ _ _ _ _ _ _ HRU.out HG.out
end
section
open Go.RowKit
set_option linter.unusedVariables false
set_option linter.unusedSimpArgs false
/-- The digest by any beginnings and constants. -/
def shaBy (K : List Nat) (s : St8) (all : List UInt8) : List UInt8 := (blocksN K ((padN all all.length (beBytes 8 (8 * all.length))).length / 64) s (padN all all.length (beBytes 8 (8 * all.length)))).bytes
theorem shaBy_std (all : List UInt8) : shaBy kTab iv all = shaB all := (shaB_whole all).symm
set_option maxRecDepth 100000 in
set_option maxHeartbeats 4000000 in
theorem sum_any (A : Option Addr) (all : List UInt8) (c : Nat) (A1 A2 : Option Addr) (c1 c2 : Nat) (K : List Nat) (s : St8) (w : World) (hs : s.ok) (hK : K.length = 64) (hKl : ∀ k, K.getD k 0 < 4294967296) (hn : all.length ≤ 1099511627776) (hA : Sq w w.heap.size A c (bvs all)) (h1 : Sq w w.heap.size A1 c1 (uvs s.list)) (h2 : Sq w w.heap.size A2 c2 (uvs K)) :
    Calls Tryz.prog 98 #[.slice A all.length c, .slice A1 8 c1, .slice A2 64 c2] w fun e w' => ∃ v, e = .returned v ∧ OwnB w' w.heap.size v (shaBy K s all) ∧ Below w.heap.size w w' := by
  have HA := hid hA; have H1 := hid h1; have H2 := hid h2
  have hl1 : Lie (w.alloc (.cells #[] 53)) w.heap.size A1 (uvs s.list) := h1.lie.alloc (Nat.le_refl _) _
  have HL1 := hid hl1
  clear hA h1 h2 hl1
  go_enter Tryz.func98, Tryz.ntmps98
  go_wp2_with (at_builtin; refine wpList_append_lie rfl (.tmp 31) (.tmp 32) 110 rfl w.heap.size 53 (.int .u64 0) 8 Tryz.underlying110 infoU64 rfl rfl (emptyR_row _ _ (k := w.heap.size) rfl (Nat.le_refl _)) (uvs_length s.list) rfl HL1.out (uvs_one _) ?d1 ?d2 ?d3 ?_)
  case d1 => unfold maxLen; rw [St8.list_length]; omega
  case d2 => rw [St8.list_length]; omega
  case d3 => simp
  intro v1 w1 hown1 hg1 _
  obtain ⟨gh, ch, rfl, hgh, hghl, hch, hch2⟩ := ownU_form hown1 (by omega)
  have hb1 : Below w.heap.size w w1 := ((Below.refl _ _).alloc (Nat.le_refl _) _).grown hg1 (by simp) (fun q h => by simp [Value.ownBlock] at h; omega)
  have hru1 := RowU.of_own hown1
  have hAl1 : Lie (w1.alloc (.cells #[] 5)) w.heap.size A (bvs all) := (HA.out.lie.below hb1).alloc hb1.size _
  have HB1 := hid hb1; have HRU1 := hid hru1; have HAL1 := hid hAl1
  have hsz1 := hb1.size
  clear hown1 hg1 hb1 hru1 hAl1
  go_wp2_with (at_builtin; refine wpList_append_lie rfl (.tmp 34) (.tmp 35) 22 rfl w1.heap.size 5 (.int .u8 0) 1 Tryz.underlying22 infoU8 rfl rfl (emptyR_row _ _ (k := w1.heap.size) rfl (Nat.le_refl _)) (bvs_length all) rfl HAL1.out (bvs_one all) ?d4 ?d5 ?d6 ?_)
  case d4 => unfold maxLen; omega
  case d5 => omega
  case d6 => simp
  intro v2 w2 hown2 hg2 _
  have hO2 : OwnB w2 w1.heap.size v2 all := by simpa [OwnB] using hown2
  have hB12 : Below w1.heap.size w1 w2 := ((Below.refl _ _).alloc (Nat.le_refl _) _).grown hg2 (by simp) (fun q h => by simp [Value.ownBlock] at h; omega)
  have hsz2 := hB12.size
  have HO2 := hid hO2; have HB12 := hid hB12
  obtain ⟨A2', c2', rfl, _⟩ := own_sl hO2
  have HO2' := hid (World.ownsRow.alloc hO2 (.cells #[.int .u8 128] 5))
  clear hown2 hg2 hO2 hB12 HAL1
  go_wp2_with (at_builtin; refine wpList_append_lie rfl (.tmp 36) (.tmp 37) 22 rfl w1.heap.size 5 (.int .u8 0) 1 Tryz.underlying22 infoU8 rfl rfl HO2'.out rfl rfl (Lie.new1 _ _ _) ?d7 ?d8 ?d9 ?d10 ?_)
  case d7 => intro u hu; simp at hu; subst hu; rfl
  case d8 => rw [List.length_singleton]; unfold maxLen; omega
  case d9 => rw [List.length_singleton]; omega
  case d10 => simp; omega
  intro v3 w3 hown3 hg3 _
  have hO3 : OwnB w3 w1.heap.size v3 (all ++ [128]) := own_snoc hown3 (by simp) rfl
  have hB13 : Below w1.heap.size w1 w3 := (HB12.out.alloc HB12.out.size _).grown hg3 (by simp; omega) (fun q h => own_lt HO2'.out q h)
  have HO3 := hid hO3; have HB13 := hid hB13
  clear hown3 hg3 hO3 hB13 HO2' HO2 HB12
  go_wp2
  go_loopg [8] (padZ all.length) (fun g u wr => ∃ j : Nat, j + g = padZ all.length ∧ OwnB wr w1.heap.size u (all ++ [128] ++ List.replicate j 0) ∧ Below w1.heap.size w1 wr)
  case atStart => exact ⟨0, by omega, by simpa using HO3.out, HB13.out⟩
  case round =>
    clear HO3 HB13
    obtain ⟨j, hj, ho, hb⟩ := hrel
    have hzb : padZ all.length < 64 := by unfold padZ; omega
    obtain ⟨ys, hys⟩ : ∃ ys : List UInt8, ys = all ++ [128] ++ List.replicate j 0 := ⟨_, rfl⟩
    rw [← hys] at ho
    have hyl : ys.length = all.length + 1 + j := by rw [hys]; simp; omega
    have hyb : ys.length ≤ 1099511627776 + 65 := by omega
    have hL0 : (0 : Int) ≤ (ys.length : Int) := by omega
    have HYL := hid hyl; have HYS := hid hys; have HJ := hid hj; have HB := hid hb
    obtain ⟨A3, c3, rfl, _⟩ := own_sl ho
    have HO := hid ho
    have hszr := hb.size
    clear hb
    by_cases hlt : j < padZ all.length
    · have ht : (((ys.length : Int) % 64) != 56) = true := by
        rw [bne_iff_ne]
        unfold padZ at hlt
        omega
      clear hj hyl hys
      have HO2' := hid (World.ownsRow.alloc ho (.cells #[.int .u8 0] 5))
      clear ho
      go_wp2_with (at_builtin; refine wpList_append_lie rfl (.tmp 43) (.tmp 44) 22 rfl w1.heap.size 5 (.int .u8 0) 1 Tryz.underlying22 infoU8 rfl rfl HO2'.out rfl rfl (Lie.new1 _ _ _) ?f0 ?f1 ?f2 ?f3 ?_)
      case f0 => intro u hu; simp at hu; subst hu; rfl
      case f1 => rw [List.length_singleton]; unfold maxLen; omega
      case f2 => rw [List.length_singleton]; omega
      case f3 => simp; omega
      intro v5 w5 hown5 hg5 _
      have hO5 : OwnB w5 w1.heap.size v5 (all ++ [128] ++ List.replicate (j + 1) 0) := by
        rw [List.replicate_succ', ← List.append_assoc, ← HYS.out]
        exact own_snoc hown5 (by simp) rfl
      have hB5 : Below w1.heap.size w1 w5 := (HB.out.alloc HB.out.size _).grown hg5 (by simp; omega) (fun q h => own_lt HO2'.out q h)
      have HO5 := hid hO5; have HB5 := hid hB5
      clear hown5 hg5 hO5 hB5 HO2'
      go_wp2
      have hj := HJ.out
      go_roundg (padZ all.length - j - 1)
      case measure => omega
      case rel => exact ⟨j + 1, by omega, HO5.out, HB5.out⟩
    · obtain rfl : j = padZ all.length := by omega
      have ht : (((ys.length : Int) % 64) != 56) = false := by
        rw [bne_eq_false_iff_eq]
        unfold padZ at hyl
        omega
      have hn8 : 8 * all.length < 18446744073709551616 := by omega
      have hsum : (ys.length + 8) % 64 = 0 := by
        unfold padZ at hyl
        omega
      have HSUM := hid hsum
      clear hj hyl hys hsum
      go_wp2
      go_loopg [8, 10] 8 (fun g u i wr => ∃ (k : Nat) (pre : List UInt8), k + g = 8 ∧ i = .int .i64 (k : Int) ∧ pre ++ beBytes (8 - k) (8 * all.length) = beBytes 8 (8 * all.length) ∧ pre.length = k ∧ OwnB wr w1.heap.size u (ys ++ pre) ∧ Below w1.heap.size w1 wr)
      case atStart => exact ⟨0, [], rfl, rfl, rfl, rfl, by simpa using HO.out, HB.out⟩
      case round =>
        clear HO HB ho
        obtain ⟨k, pre, hk, rfl, hpre, hpl, ho, hb⟩ := hrel
        obtain ⟨wo, rfl⟩ : ∃ wo : World, wo = wr := ⟨_, rfl⟩
        have hk8 : k ≤ 8 := by omega
        obtain ⟨zs, hzs⟩ : ∃ zs : List UInt8, zs = ys ++ pre := ⟨_, rfl⟩
        rw [← hzs] at ho
        have hzl : zs.length = ys.length + k := by rw [hzs, List.length_append, hpl]
        have hzb2 : zs.length ≤ 1099511627776 + 80 := by omega
        have HP := hid hpre; have HK := hid hk; have HB := hid hb; have HZS := hid hzs; have HZL := hid hzl; have HPL := hid hpl
        obtain ⟨A5, c5, rfl, hS5⟩ := own_sl ho
        have HO := hid ho; have HS5 := hid hS5.sq
        have hszr2 := hb.size
        clear hpre hk hb hzs hzl hpl hS5 ho
        by_cases hlt8 : k < 8
        · have hki : (k : Int) < 8 := by omega
          have hk0 : (0 : Int) ≤ (k : Int) := by omega
          go_wp2
          go_loopg [11, 12] 8 (fun g u q wr => ∃ i : Nat, i + g = 8 ∧ i ≤ 7 - k ∧ u = .int .u64 ((256 ^ i : Nat) : Int) ∧ q = .int .i64 (i : Int) ∧ wr = wo)
          case atStart => exact ⟨0, rfl, by omega, rfl, rfl, rfl⟩
          case round =>
            obtain ⟨i, hi, hi7, rfl, rfl, rfl⟩ := hrel
            have HI := hid hi
            clear hi
            have hp8 : 256 ^ (i + 1) ≤ 256 ^ 7 ∨ i = 7 - k := by
              by_cases h : i < 7 - k
              · exact .inl (Nat.pow_le_pow_right (by omega) (by omega))
              · exact .inr (by omega)
            have hpow : 256 ^ (i + 1) = 256 ^ i * 256 := Nat.pow_succ ..
            have hpos : 0 < 256 ^ i := Nat.pow_pos (by omega)
            obtain ⟨z, hz⟩ : ∃ z, z = 256 ^ i := ⟨_, rfl⟩
            rw [← hz] at hpow hpos ⊢
            rw [hpow] at hp8
            have HZ := hid hz; have HPOW := hid hpow
            clear hz hpow
            by_cases hlt7 : i < 7 - k
            · have hii : (i : Int) < 7 - (k : Int) := by omega
              have hi0 : (0 : Int) ≤ (i : Int) := by omega
              have hzm : (z : Int) * 256 < 18446744073709551616 := by omega
              clear hp8
              go_wp2
              have hi := HI.out
              go_roundg (8 - i - 1)
              case measure => omega
              case rel => exact ⟨i + 1, by omega, by omega, by rw [HPOW.out]; go_num, by go_num, rfl⟩
            · obtain rfl : i = 7 - k := by omega
              have hii : ¬ (((7 - k : Nat) : Nat) : Int) < 7 - (k : Int) := by omega
              have hzi : (1 : Int) ≤ (z : Int) := by omega
              have hwl : IntKind.u64.wrap (all.length : Int) = (all.length : Int) := by rw [IntKind.wrap_u64]; omega
              have hw8 : IntKind.u64.wrap ((all.length : Int) * 8) = (all.length : Int) * 8 := by rw [IntKind.wrap_u64]; omega
              obtain ⟨Q, hQ⟩ : ∃ Q : Nat, Q = 8 * all.length / z := ⟨_, rfl⟩
              have hQb : Q < 18446744073709551616 := by
                have := Nat.div_le_self (8 * all.length) z
                omega
              have hq : IntKind.u64.wrap (((all.length : Int) * 8).tdiv (z : Int)) = (Q : Int) := by
                rw [show (all.length : Int) * 8 = ((8 * all.length : Nat) : Int) by omega, ← Int.ofNat_tdiv, ← hQ, IntKind.wrap_u64]
                omega
              obtain ⟨r, hr⟩ : ∃ r : Nat, r = Q % 256 := ⟨_, rfl⟩
              have htm : Int.tmod (Q : Int) 256 = (r : Int) := by
                rw [hr]; exact (Int.ofNat_tmod Q 256).symm
              have hr8 : (r : Int) % 256 = (r : Int) := by omega
              have HQ := hid hQ; have HR := hid hr
              clear hp8 hn8 hyb hn hQb hQ hr
              have HO2' := hid (World.ownsRow.alloc HO.out (.cells #[.int .u8 (r : Int)] 5))
              go_wp2_with (at_builtin; refine wpList_append_lie rfl (.tmp 62) (.tmp 68) 22 rfl w1.heap.size 5 (.int .u8 0) 1 Tryz.underlying22 infoU8 rfl rfl HO2'.out rfl rfl (Lie.new1 _ _ _) ?h0 ?h1 ?h2 ?h3 ?_)
              case h0 => intros; first | rfl | (rename_i hu; simp at hu; subst hu; rfl)
              case h1 => try rw [List.length_singleton]
                         unfold maxLen; omega
              case h2 => try rw [List.length_singleton]
                         omega
              case h3 => first | (simp; omega) | (simp; done) | omega
              intro v5 w5 hown5 hg5 _
              have hbyte : (r : Int) = (((UInt8.ofNat (8 * all.length / 256 ^ (7 - k))).toNat : Nat) : Int) := by
                rw [ofNat_val, ← HZ.out, ← HQ.out]; have := HR.out; omega
              have hO5 : OwnB w5 w1.heap.size v5 (ys ++ (pre ++ [UInt8.ofNat (8 * all.length / 256 ^ (7 - k))])) := by
                rw [← List.append_assoc, ← HZS.out]
                exact own_snoc hown5 (by simp) hbyte
              have hB5 : Below w1.heap.size w1 w5 := (HB.out.alloc HB.out.size _).grown hg5 (by simp; omega) (fun q h => own_lt HO2'.out q h)
              have hpn : (pre ++ [UInt8.ofNat (8 * all.length / 256 ^ (7 - k))]) ++ beBytes (8 - (k + 1)) (8 * all.length) = beBytes 8 (8 * all.length) := by
                rw [← HP.out, show 8 - k = (7 - k) + 1 by omega, beBytes, show 8 - (k + 1) = 7 - k by omega]; simp
              have HO5 := hid hO5; have HB5 := hid hB5; have HPN := hid hpn
              clear hown5 hg5 hO5 hB5 HO2' hpn hbyte
              go_wp2
              have hk := HK.out
              go_roundg (8 - k - 1)
              case measure => omega
              case rel => exact ⟨k + 1, _, by omega, by go_num, HPN.out, by rw [List.length_append, HPL.out]; rfl, HO5.out, HB5.out⟩
        · obtain rfl : k = 8 := by omega
          have hpe : pre = beBytes 8 (8 * all.length) := by have := HP.out; simpa [beBytes] using this
          have hki : ¬ ((8 : Nat) : Int) < 8 := by omega
          have hpos : 0 < zs.length := by have := HZL.out; omega
          obtain ⟨gm, cm, hvm, hgm1, hgm2, hcm1, hcm2⟩ := ownU_form HO.out hpos
          simp only [Value.slice.injEq, true_and] at hvm
          obtain ⟨rfl, rfl⟩ := hvm
          have hLt : Lie wo wo.heap.size (some ⟨gm, 0, none⟩) (bvs zs) := HS5.out.lie
          have hRUo : RowU wo gh s.list := HRU1.out.keep (HB.out.block gh hghl)
          have hBo : Below w.heap.size w wo := HB1.out.trans (HB.out.mono hsz1)
          have hKo : Sq wo w.heap.size A2 c2 (uvs K) := H2.out.below hBo
          have hzM : zs = padN all all.length (beBytes 8 (8 * all.length)) := by rw [HZS.out, hpe, HYS.out]; rfl
          obtain ⟨nb, hnb⟩ : ∃ nb, zs.length = 64 * nb := ⟨zs.length / 64, by have := HZL.out; have := HSUM.out; omega⟩
          have hzs40 : zs.length < 1099511627900 := by have := HZL.out; omega
          have HLT := hid hLt; have HRUO := hid hRUo; have HBO := hid hBo; have HKO := hid hKo; have HZM := hid hzM; have HNB := hid hnb
          clear hLt hRUo hBo hKo hzM hnb HO HS5 HB HZS HZL HPL hlt8 HP HK hpe HSUM HYS HYL HJ hlt ht hL0 hzb hyb hn hn8
          clear hzb2
          go_wp2
          have hks' : Sq wo wo.heap.size A2 c2 (uvs K) := HKO.out.more HBO.out.size
          have hnk : NotIn A2 (uvs K) gh := HKO.out.notIn (by omega)
          have HKS' := hid hks'; have HNK := hid hnk
          clear hks' hnk
          refine blocks_loop A2 c2 gh ch _ _ nb K s zs wo _ _ _ _ _ _ _ _ _ _ _ _ _ _ _ _ _ _ _ _ _ _ _ _ _ _ _ _ _ _ _ _ _ _ _ _ _ _ _ _ _ _ _ _ _ _ _ _ _ _ _ _ _ _ _ _ _ _ _ _ _ _ _ _ _ _ _ _ _ _ _ _ _ _ _ _ _ _ _ _ _ _ _ _ _ _ _ _ _ _ _ _ _ _ _ _ _ _ _ _ _ _ _ _ _ _ _ _ _ _ _ _ _ _ _ _ _ _ _ _ _ _ _ _ _ _ _ _ _ _ _ _ _ _ _ _ _ _ _ _ _ _ _ _ _ _ _ _ _ _ _ _ _ _ _ _ _ _ _ _ _ _ _ _ _ _ _ _ _ _ _ _ _ _ _ _ _ _ _ _ _ _ _ _ _ _ _ _ _ _ _ _ _ _ _ _ _ _ _ _ _ _ _ _ _ _ _ _ _ _ _ _ _ _ _ _ _ _ _ _ _ _ _ _ _ _ _ _ _ _ _ _ _ _ _ _ _ _ _ _ _ _ _ _ _ _ _ _ _ _ _ _ _ _ _ _ _ _ _ _ _ _ _ _ _ _ _ _ _ _ _ _ _ _ _ _ _ _ _ _ _ _ _ _ _ _ _ _ _ _ _ _ _ _ _ _ _ _ _ _ _ _ _ _ _ _ _ _ _ _ _ _ _ _ _ _ _ _ _ _ _ _ _ _ _ _ _ _ _ _ _ _ _ _ _ _ _ _ _ _ _ _ _ _ _ _ _ _ ?hpan1 hs hK hKl HNB.out hzs40 hcm1 hch (by omega) HLT.out HKS'.out HNK.out HRUO.out ?_
          case hpan1 => exact fun _ _ _ _ _ h => h
          intro w5 u13 u14 u15 u16 u17 u18 u19 u20 u21 u22 u23 u24 u25 u26 u27 u28 u70 u71 u72 u73 u74 u75 u76 u77 u78 u79 u80 u81 u82 u83 u84 u85 u86 u87 u88 u89 u90 u91 u92 u93 u94 u95 u96 u97 u98 u99 u100 u101 u102 u103 u104 u105 u106 u107 u108 u109 u110 u111 u112 u113 u114 u115 u116 u117 u118 u119 u120 u121 u122 u123 u124 u125 u126 u127 u128 u129 u130 u131 u132 u133 u134 u135 u136 u137 u138 u139 u140 u141 u142 u143 u144 u145 u146 u147 u148 u149 u150 u151 u152 u153 u154 u155 u156 u157 u158 u159 u160 u161 u162 u163 u164 u165 u166 u167 u168 u169 u170 u171 u172 u173 u174 u175 u176 u177 u178 u179 u180 u181 u182 u183 u184 u185 u186 u187 u188 u189 u190 u191 u192 u193 u194 u195 u196 u197 u198 u199 u200 u201 u202 u203 u204 u205 u206 u207 u208 u209 u210 u211 u212 u213 u214 u215 u216 u217 u218 u219 u220 u221 u222 u223 u224 u225 u226 u227 u228 u229 u230 u231 u232 u233 u234 u235 u236 u237 u238 u239 u240 u241 u242 u243 u244 u245 u246 u247 u248 u249 u250 u251 u252 u253 u254 u255 u256 u257 u258 u259 u260 u261 u262 u263 u264 u265 u266 u267 u268 u269 u270 u271 u272 u273 u274 u275 u276 u277 u278 u279 u280 u281 u282 u283 u284 u285 u286 u287 u288 u289 u290 u291 u292 u293 u294 u295 u296 u297 u298 u299 u300 u301 u302 u303 u304 u305 u306 u307 u308 u309 u310 u311 u312 u313 u314 u315 u316 u317 hru5 hg5
          have hB5 : Below w.heap.size w w5 := HBO.out.grown hg5 HBO.out.size (fun q h => by injection h with h; omega)
          have HRU5 := hid hru5; have HB5 := hid hB5
          clear hru5 hg5 hB5 HLT HRUO HBO HKO HKS' HNK
          go_wp2
          refine out_loop gh ch (blocksN K nb s zs) w5 _ _ _ _ _ _ _ _ _ _ _ _ _ _ _ _ _ _ _ _ _ _ _ _ _ _ _ _ _ _ _ _ _ _ _ _ _ _ _ _ _ _ _ _ _ _ _ _ _ _ _ _ _ _ _ _ _ _ _ _ _ _ _ _ _ _ _ _ _ _ _ _ _ _ _ _ _ _ _ _ _ _ _ _ _ _ _ _ _ _ _ _ _ _ _ _ _ _ _ _ _ _ _ _ _ _ _ _ _ _ _ _ _ _ _ _ _ _ _ _ _ _ _ _ _ _ _ _ _ _ _ _ _ _ _ _ _ _ _ _ _ _ _ _ _ _ _ _ _ _ _ _ _ _ _ _ _ _ _ _ _ _ _ _ _ _ _ _ _ _ _ _ _ _ _ _ _ _ _ _ _ _ _ _ _ _ _ _ _ _ _ _ _ _ _ _ _ _ _ _ _ _ _ _ _ _ _ _ _ _ _ _ _ _ _ _ _ _ _ _ _ _ _ _ _ _ _ _ _ _ _ _ _ _ _ _ _ _ _ _ _ _ _ _ _ _ _ _ _ _ _ _ _ _ _ _ _ _ _ _ _ _ _ _ _ _ _ _ _ _ _ _ _ _ _ _ _ _ _ _ _ _ _ _ _ _ _ _ _ _ _ _ _ _ _ _ _ _ _ _ _ _ _ _ _ _ _ _ _ _ _ _ _ _ _ _ _ _ _ _ _ _ _ _ _ _ _ _ _ _ _ _ _ _ _ _ _ _ _ _ _ _ _ _ _ _ _ _ _ ?hpan2 (blocksN_okay _ _ _ _ hs) hch HRU5.out ?_
          case hpan2 => exact fun _ _ _ _ _ h => h
          intro v6 w6 u30 u318 u319 u320 u321 u322 u323 u324 u325 u326 u327 u328 u329 u330 u331 u332 u333 u334 u335 u336 u337 u338 u339 u340 u341 u342 u343 u344 u345 u346 u347 u348 u349 u350 ho6 hb6
          have hfin : OwnB w6 w.heap.size v6 (shaBy K s all) := by
            have h : shaBy K s all = (blocksN K nb s zs).bytes := by
              rw [shaBy, ← HZM.out, HNB.out, Nat.mul_div_cancel_left _ (by omega)]
            rw [h]
            exact own_base ho6 HB5.out.size
          have HFIN := hid hfin; have HBF := hid (HB5.out.trans (hb6.mono HB5.out.size))
          clear ho6 hb6 hfin
          go_wp2
          go_ret
          exact ⟨_, rfl, HFIN.out, HBF.out⟩
end
section
open Go.RowKit
set_option linter.unusedVariables false
set_option linter.unusedSimpArgs false
theorem table_lits : (uvs kTab).toArray = #[.int .u64 1116352408, .int .u64 1899447441, .int .u64 3049323471, .int .u64 3921009573, .int .u64 961987163, .int .u64 1508970993, .int .u64 2453635748, .int .u64 2870763221, .int .u64 3624381080, .int .u64 310598401, .int .u64 607225278, .int .u64 1426881987, .int .u64 1925078388, .int .u64 2162078206, .int .u64 2614888103, .int .u64 3248222580, .int .u64 3835390401, .int .u64 4022224774, .int .u64 264347078, .int .u64 604807628, .int .u64 770255983, .int .u64 1249150122, .int .u64 1555081692, .int .u64 1996064986, .int .u64 2554220882, .int .u64 2821834349, .int .u64 2952996808, .int .u64 3210313671, .int .u64 3336571891, .int .u64 3584528711, .int .u64 113926993, .int .u64 338241895, .int .u64 666307205, .int .u64 773529912, .int .u64 1294757372, .int .u64 1396182291, .int .u64 1695183700, .int .u64 1986661051, .int .u64 2177026350, .int .u64 2456956037, .int .u64 2730485921, .int .u64 2820302411, .int .u64 3259730800, .int .u64 3345764771, .int .u64 3516065817, .int .u64 3600352804, .int .u64 4094571909, .int .u64 275423344, .int .u64 430227734, .int .u64 506948616, .int .u64 659060556, .int .u64 883997877, .int .u64 958139571, .int .u64 1322822218, .int .u64 1537002063, .int .u64 1747873779, .int .u64 1955562222, .int .u64 2024104815, .int .u64 2227730452, .int .u64 2361852424, .int .u64 2428436474, .int .u64 2756734187, .int .u64 3204031479, .int .u64 3329325298] := rfl
set_option maxRecDepth 100000 in
set_option maxHeartbeats 800000 in
theorem table_any (w : World) :
    Calls Tryz.prog 97 #[] w fun e w' => e = .returned (.tuple #[.slice (some ⟨w.heap.size, 0, none⟩) 8 8, .slice (some ⟨w.heap.size + 1, 0, none⟩) 64 64]) ∧ w' = (w.alloc (.cells (uvs iv.list).toArray 53)).alloc (.cells (uvs kTab).toArray 53) := by
  rw [table_lits]
  go_enter Tryz.func97, Tryz.ntmps97
  go_wp2
  exact bodyPost_ret (v := .tuple #[.slice (some ⟨w.heap.size, 0, none⟩) 8 8, .slice (some ⟨w.heap.size + 1, 0, none⟩) 64 64]) (by simp [results, Tryz.results97]) rfl ⟨rfl, rfl⟩
theorem uvs_new {W : World} {g : Nat} {xs : List Nat} (h : W.heap[g]? = some (.cells (uvs xs).toArray 53 (0, 0))) (c : Nat) (h1 : xs.length ≤ c) (h2 : c ≤ 9223372036854775807) : Sq W W.heap.size (some ⟨g, 0, none⟩) c (uvs xs) :=
  .inr ⟨g, 0, rfl, block_lt h, by rw [uvs_length]; exact h1, h2, fun j u hu => by rw [Nat.zero_add]; exact cell_of h j u (by rw [List.getElem?_toArray]; exact hu)⟩
set_option maxRecDepth 100000 in
set_option maxHeartbeats 800000 in
theorem ref2_digest (A : Option Addr) (all : List UInt8) (c : Nat) (w : World) (hn : all.length ≤ 1099511627776) (hA : Sq w w.heap.size A c (bvs all)) :
    Calls Tryz.prog 76 #[.slice A all.length c] w fun e w' => ∃ v, e = .returned v ∧ OwnB w' w.heap.size v (shaB all) ∧ Below w.heap.size w w' := by
  obtain ⟨w2, hw2⟩ : ∃ w2, w2 = (w.alloc (.cells (uvs iv.list).toArray 53)).alloc (.cells (uvs kTab).toArray 53) := ⟨_, rfl⟩
  have hb : Below w.heap.size w w2 := by rw [hw2]; exact ((Below.refl _ _).alloc (Nat.le_refl _) _).alloc (by simp) _
  have hr1 : w2.heap[w.heap.size]? = some (.cells (uvs iv.list).toArray 53 (0, 0)) := by rw [hw2]; exact heap_alloc2_old _ _ _
  have hr2 : w2.heap[w.heap.size + 1]? = some (.cells (uvs kTab).toArray 53 (0, 0)) := by rw [hw2]; exact heap_alloc2_new _ _ _
  have HS := hid (sum_any A all c (some ⟨w.heap.size, 0, none⟩) (some ⟨w.heap.size + 1, 0, none⟩) 8 64 kTab iv w2 iv_ok rfl kTab_lt hn ((hA.below hb).more hb.size) (uvs_new hr1 8 (by simp) (by omega)) (uvs_new hr2 64 (Nat.le_refl _) (by omega)))
  have HB := hid hb; have HW := hid hw2
  clear hA hb hr1 hr2 hw2
  go_enter Tryz.func76, Tryz.ntmps76
  go_wp2_with fail
  refine (table_any w).mono ?_
  rintro e w3 ⟨rfl, hw3⟩
  rw [← HW.out] at hw3
  subst hw3
  clear HW
  go_wp2_with fail
  refine HS.out.mono ?_
  rintro e w4 ⟨v, rfl, ho, hb4⟩
  rw [shaBy_std] at ho
  have HO := hid (own_base ho HB.out.size); have HB4 := hid (HB.out.trans (hb4.mono HB.out.size))
  clear ho hb4
  go_wp2
  go_ret
  exact ⟨_, rfl, HO.out, HB4.out⟩
end
end Go.Proofs.YtpkmidaflnbobaaGreatDoor
end
section
namespace Go.Proofs.YtpkmidaflnbobaaGreatDoor
section
open Go.RowKit
set_option linter.unusedVariables false
set_option linter.unusedSimpArgs false
theorem padX_snoc (x : UInt8) (k : List UInt8) (n : Nat) (h : n < 64) : (padX x k).take (n + 1) = (padX x k).take n ++ [k.getD n 0 ^^^ x] := by
  rw [List.take_succ_eq_append_getElem (by simpa using h)]
  congr 2
  simp [padX]
/-- Of two owned rows that lie apart one grows by a byte. -/
theorem append_two {wq w5 : World} {B : Nat} {va vb v5 : Value} {xs ys : List UInt8} {z : UInt8} {i : Int} {o : Obj} (ha : OwnB wq B va xs) (hb : OwnB wq B vb ys) (hne : ∀ q, vb.ownBlock = some q → va.ownBlock ≠ some q)
    (h1 : w5.ownsRow B 5 1 v5 (xs.length + 1) (bvs xs ++ [.int .u8 i])) (hg : (wq.alloc o).grownBy w5 va.ownBlock) (hat : v5.ownBlock = va.ownBlock ∨ v5.ownBlock = some (wq.heap.size + 1)) (hz : i = (z.toNat : Int)) :
    OwnB w5 B v5 (xs ++ [z]) ∧ OwnB w5 B vb ys ∧ (∀ q, vb.ownBlock = some q → v5.ownBlock ≠ some q) := by
  refine ⟨own_snoc h1 rfl hz, World.ownsRow.kept (World.ownsRow.alloc hb o) hg ?_, fun q h e => ?_⟩
  · rcases hq : vb.ownBlock with _ | q
    · exact .inl rfl
    · exact .inr fun e => hne q hq e.symm
  · rcases hat with h2 | h2
    · exact hne q h (h2.symm.trans e)
    · rw [h2] at e
      injection e with e
      have := (World.ownsRow.lt hb q h).2
      omega
set_option maxRecDepth 100000 in
set_option maxHeartbeats 1600000 in
theorem pads_loop {Q : Exit → Act → World → Prop} (A : Option Addr) (k : List UInt8) (c : Nat) (w0 : World) (t1 t2 t3 t4 t8 t9 t10 t11 t12 t13 t14 t15 t16 t17 t18 t19 t20 t21 t22 t23 t24 t25 t26 t27 t28 t29 t30 t31 t32 t33 t34 t35 t36 t37 t38 t39 t40 t41 t42 : Value)
    (hk : Lie w0 w0.heap.size A (bvs k)) (hkl : k.length ≤ 1099511627776)
    (hexit : ∀ (vi vo : Value) (w' : World) (u7 u8 u14 u15 u16 u17 u18 u19 u20 u21 u22 u23 u24 u25 u26 u27 u28 u29 u30 u31 u32 u33 u34 u35 : Value), OwnB w' w0.heap.size vi (padX 54 k) → OwnB w' w0.heap.size vo (padX 92 k) → (∀ q, vo.ownBlock = some q → vi.ownBlock ≠ some q) → Below w0.heap.size w0 w' → Q (.exit 0) ⟨((.slice A k.length c) :: t1 :: t2 :: t3 :: t4 :: vi :: vo :: u7 :: u8 :: t9 :: t10 :: t11 :: t12 :: t13 :: u14 :: u15 :: u16 :: u17 :: u18 :: u19 :: u20 :: u21 :: u22 :: u23 :: u24 :: u25 :: u26 :: u27 :: u28 :: u29 :: u30 :: u31 :: u32 :: u33 :: u34 :: u35 :: t36 :: t37 :: t38 :: t39 :: t40 :: t41 :: t42 :: []).toArray, []⟩ w') :
    Code.wp Tryz.prog (Code.loop (loopN Tryz.f53 0)) Q ⟨((.slice A k.length c) :: t1 :: t2 :: t3 :: t4 :: (.slice none 0 0) :: (.slice none 0 0) :: (.int .i64 0) :: t8 :: t9 :: t10 :: t11 :: t12 :: t13 :: t14 :: t15 :: t16 :: t17 :: t18 :: t19 :: t20 :: t21 :: t22 :: t23 :: t24 :: t25 :: t26 :: t27 :: t28 :: t29 :: t30 :: t31 :: t32 :: t33 :: t34 :: t35 :: t36 :: t37 :: t38 :: t39 :: t40 :: t41 :: t42 :: []).toArray, []⟩ w0 := by
  conv => arg 2; arg 1; whnf
  have HK := hid hk
  clear hk
  go_loopg [5, 6, 7] 64 (fun g a b i wr => ∃ n : Nat, n + g = 64 ∧ i = .int .i64 (n : Int) ∧ OwnB wr w0.heap.size a ((padX 54 k).take n) ∧ OwnB wr w0.heap.size b ((padX 92 k).take n) ∧ (∀ q, b.ownBlock = some q → a.ownBlock ≠ some q) ∧ Below w0.heap.size w0 wr)
  case atStart => exact ⟨0, rfl, rfl, ⟨rfl, .inl ⟨rfl, rfl⟩⟩, ⟨rfl, .inl ⟨rfl, rfl⟩⟩, (fun q h => by simp [Value.ownBlock] at h), Below.refl _ _⟩
  case round =>
    obtain ⟨n, hn, rfl, ha, hb, hne, hB⟩ := hrel
    obtain ⟨wq, rfl⟩ : ∃ wq : World, wq = wr := ⟨_, rfl⟩
    have hn64 : n ≤ 64 := by omega
    obtain ⟨xs, hxs⟩ : ∃ xs, xs = (padX 54 k).take n := ⟨_, rfl⟩
    obtain ⟨ys, hys⟩ : ∃ ys, ys = (padX 92 k).take n := ⟨_, rfl⟩
    rw [← hxs] at ha
    rw [← hys] at hb
    have hxl : xs.length = n := by rw [hxs, List.length_take, padX_length]; omega
    have hyl : ys.length = n := by rw [hys, List.length_take, padX_length]; omega
    have HN := hid hn; have HXS := hid hxs; have HYS := hid hys; have HXL := hid hxl; have HYL := hid hyl; have HNE := hid hne; have HB := hid hB
    obtain ⟨A1, c1, rfl, _⟩ := own_sl ha
    obtain ⟨A2, c2, rfl, _⟩ := own_sl hb
    have HA := hid ha; have HBB := hid hb
    clear hn hxs hys hxl hyl ha hb hne hB
    by_cases hlt : n < 64
    · have hni : (n : Int) < 64 := by omega
      have hn0 : (0 : Int) ≤ (n : Int) := by omega
      clear hexit
      obtain ⟨y, hy⟩ : ∃ y, y = k.getD n 0 := ⟨_, rfl⟩
      obtain ⟨z1, hz1⟩ : ∃ z : UInt8, z = y ^^^ 54 := ⟨_, rfl⟩
      obtain ⟨z2, hz2⟩ : ∃ z : UInt8, z = y ^^^ 92 := ⟨_, rfl⟩
      obtain ⟨i1, hi1⟩ : ∃ i : Int, i = (z1.toNat : Int) := ⟨_, rfl⟩
      obtain ⟨i2, hi2⟩ : ∃ i : Int, i = (z2.toNat : Int) := ⟨_, rfl⟩
      obtain ⟨yi, hyi⟩ : ∃ i : Int, i = (y.toNat : Int) := ⟨_, rfl⟩
      have e1 : bits .xor .u8 yi 54 = i1 := by rw [hi1, hz1, hyi]; exact xor_u8 y 54
      have e2 : bits .xor .u8 yi 92 = i2 := by rw [hi2, hz2, hyi]; exact xor_u8 y 92
      have HI1 := hid hi1; have HI2 := hid hi2; have HZ1 := hid hz1; have HZ2 := hid hz2; have HY := hid hy; have HYI := hid hyi
      have HO1 := hid (World.ownsRow.alloc HA.out (.cells #[.int .u8 i1] 5))
      clear hi1 hi2 hz1 hz2
      by_cases hkn : n < k.length
      · have hki : (n : Int) < (k.length : Int) := by omega
        obtain ⟨b, o, rfl, hbl, hc⟩ := (HK.out.below HB.out).byte hkn
        have hyk : k[n] = y := by rw [hy, List.getD_eq_getElem?_getD, List.getElem?_eq_getElem hkn]; rfl
        rw [hyk, ← hyi] at hc
        clear hyk hy hyi
        go_wp2_with (at_builtin; refine wpList_append_lie rfl (.tmp 26) (.tmp 29) 22 rfl w0.heap.size 5 (.int .u8 0) 1 Tryz.underlying22 infoU8 rfl rfl HO1.out rfl rfl (Lie.new1 _ _ _) (by intro u hu; simp at hu; subst hu; rfl) (by rw [List.length_singleton, HXL.out]; unfold maxLen; omega) (by rw [List.length_singleton, HXL.out]; omega) (by have := HB.out.size; simp; omega) ?_)
        intro v5 w5 hown5 hg5 hat5
        obtain ⟨ha5, hb5, hne5⟩ := append_two HA.out HBB.out HNE.out hown5 hg5 hat5 HI1.out
        have hB5 : Below w0.heap.size w0 w5 := (HB.out.alloc HB.out.size _).grown hg5 (by have := HB.out.size; simp; omega) (fun q h => own_lt HA.out q h)
        obtain ⟨A5, c5, rfl, _⟩ := own_sl ha5
        have HA5 := hid ha5; have HBB5 := hid hb5; have HNE5 := hid hne5; have HB5 := hid hB5
        have HO2 := hid (World.ownsRow.alloc hb5 (.cells #[.int .u8 i2] 5))
        clear hown5 hg5 hat5 ha5 hb5 hne5 hB5 HO1
        go_wp2_with (at_builtin; refine wpList_append_lie rfl (.tmp 31) (.tmp 34) 22 rfl w0.heap.size 5 (.int .u8 0) 1 Tryz.underlying22 infoU8 rfl rfl HO2.out rfl rfl (Lie.new1 _ _ _) (by intro u hu; simp at hu; subst hu; rfl) (by rw [List.length_singleton, HYL.out]; unfold maxLen; omega) (by rw [List.length_singleton, HYL.out]; omega) (by have := HB5.out.size; simp; omega) ?_)
        intro v6 w6 hown6 hg6 hat6
        obtain ⟨hb6, ha6, hne6⟩ := append_two HBB5.out HA5.out (fun q h e => HNE5.out q e h) hown6 hg6 hat6 HI2.out
        have hB6 : Below w0.heap.size w0 w6 := (HB5.out.alloc HB5.out.size _).grown hg6 (by have := HB5.out.size; simp; omega) (fun q h => own_lt HBB5.out q h)
        have hfa : OwnB w6 w0.heap.size (.slice A5 (xs ++ [z1]).length c5) ((padX 54 k).take (n + 1)) := by rw [padX_snoc 54 k n hlt, ← HXS.out, ← HY.out, ← HZ1.out]; exact ha6
        have hfb : OwnB w6 w0.heap.size v6 ((padX 92 k).take (n + 1)) := by rw [padX_snoc 92 k n hlt, ← HYS.out, ← HY.out, ← HZ2.out]; exact hb6
        have HFA := hid hfa; have HFB := hid hfb; have HNE6 := hid hne6; have HB6 := hid hB6
        clear hown6 hg6 hat6 hb6 ha6 hne6 hB6 hfa hfb HO2
        rw [List.length_append, List.length_singleton] at HFA
        go_wp2
        have hn := HN.out
        go_roundg (64 - n - 1)
        case measure => omega
        case rel => exact ⟨n + 1, by omega, by go_num, HFA.out, HFB.out, fun q h e => HNE6.out q (by simpa [Value.ownBlock] using e) h, HB6.out⟩
      · have hki : ¬ (n : Int) < (k.length : Int) := by omega
        have hy0 : y = 0 := by rw [hy, List.getD_eq_getElem?_getD, List.getElem?_eq_none (by omega)]; rfl
        have hyi0 : yi = 0 := by rw [hyi, hy0]; rfl
        subst hyi0
        clear hy hyi hy0
        go_wp2_with (at_builtin; refine wpList_append_lie rfl (.tmp 26) (.tmp 29) 22 rfl w0.heap.size 5 (.int .u8 0) 1 Tryz.underlying22 infoU8 rfl rfl HO1.out rfl rfl (Lie.new1 _ _ _) (by intro u hu; simp at hu; subst hu; rfl) (by rw [List.length_singleton, HXL.out]; unfold maxLen; omega) (by rw [List.length_singleton, HXL.out]; omega) (by have := HB.out.size; simp; omega) ?_)
        intro v5 w5 hown5 hg5 hat5
        obtain ⟨ha5, hb5, hne5⟩ := append_two HA.out HBB.out HNE.out hown5 hg5 hat5 HI1.out
        have hB5 : Below w0.heap.size w0 w5 := (HB.out.alloc HB.out.size _).grown hg5 (by have := HB.out.size; simp; omega) (fun q h => own_lt HA.out q h)
        obtain ⟨A5, c5, rfl, _⟩ := own_sl ha5
        have HA5 := hid ha5; have HBB5 := hid hb5; have HNE5 := hid hne5; have HB5 := hid hB5
        have HO2 := hid (World.ownsRow.alloc hb5 (.cells #[.int .u8 i2] 5))
        clear hown5 hg5 hat5 ha5 hb5 hne5 hB5 HO1
        go_wp2_with (at_builtin; refine wpList_append_lie rfl (.tmp 31) (.tmp 34) 22 rfl w0.heap.size 5 (.int .u8 0) 1 Tryz.underlying22 infoU8 rfl rfl HO2.out rfl rfl (Lie.new1 _ _ _) (by intro u hu; simp at hu; subst hu; rfl) (by rw [List.length_singleton, HYL.out]; unfold maxLen; omega) (by rw [List.length_singleton, HYL.out]; omega) (by have := HB5.out.size; simp; omega) ?_)
        intro v6 w6 hown6 hg6 hat6
        obtain ⟨hb6, ha6, hne6⟩ := append_two HBB5.out HA5.out (fun q h e => HNE5.out q e h) hown6 hg6 hat6 HI2.out
        have hB6 : Below w0.heap.size w0 w6 := (HB5.out.alloc HB5.out.size _).grown hg6 (by have := HB5.out.size; simp; omega) (fun q h => own_lt HBB5.out q h)
        have hfa : OwnB w6 w0.heap.size (.slice A5 (xs ++ [z1]).length c5) ((padX 54 k).take (n + 1)) := by rw [padX_snoc 54 k n hlt, ← HXS.out, ← HY.out, ← HZ1.out]; exact ha6
        have hfb : OwnB w6 w0.heap.size v6 ((padX 92 k).take (n + 1)) := by rw [padX_snoc 92 k n hlt, ← HYS.out, ← HY.out, ← HZ2.out]; exact hb6
        have HFA := hid hfa; have HFB := hid hfb; have HNE6 := hid hne6; have HB6 := hid hB6
        clear hown6 hg6 hat6 hb6 ha6 hne6 hB6 hfa hfb HO2
        rw [List.length_append, List.length_singleton] at HFA
        go_wp2
        have hn := HN.out
        go_roundg (64 - n - 1)
        case measure => omega
        case rel => exact ⟨n + 1, by omega, by go_num, HFA.out, HFB.out, fun q h e => HNE6.out q (by simpa [Value.ownBlock] using e) h, HB6.out⟩
    · obtain rfl : n = 64 := by omega
      have hni : ¬ ((64 : Nat) : Int) < 64 := by omega
      have h1 := HXS.out
      have h2 := HYS.out
      rw [List.take_of_length_le (by simp)] at h1 h2
      subst h1; subst h2
      clear HXS HYS HXL HYL
      go_wp2
      exact hexit _ _ wq _ _ _ _ _ _ _ _ _ _ _ _ _ _ _ _ _ _ _ _ _ _ _ _ HA.out HBB.out HNE.out HB.out
end
section
open Go.RowKit
set_option linter.unusedVariables false
set_option linter.unusedSimpArgs false
set_option maxRecDepth 100000 in
set_option maxHeartbeats 1600000 in
theorem ref4_tag (A : Option Addr) (key : List UInt8) (c : Nat) (A' : Option Addr) (text : List UInt8) (c' : Nat) (w : World) (hA : Sq w w.heap.size A c (bvs key)) (hA' : Sq w w.heap.size A' c' (bvs text)) (hn : key.length ≤ 1000000000) (hn2 : text.length ≤ 1000000000) :
    Calls Tryz.prog 53 #[.slice A key.length c, .slice A' text.length c'] w fun e w' => ∃ v, e = .returned v ∧ OwnB w' w.heap.size v (macB key text) ∧ Below w.heap.size w w' := by
  have HA := hid hA; have HA' := hid hA'
  by_cases h64 : 64 < key.length
  · have hx : (64 : Int) < (key.length : Int) := by omega
    have HD := hid (ref2_digest A key c w (by omega) hA)
    have HPK : Hid (padK key = shaB key) := hid (by unfold padK; rw [if_pos h64])
    clear hA hA' h64
    go_enter Tryz.func53, Tryz.ntmps53
    go_wp2_with fail
    refine HD.out.mono ?_
    rintro e w1 ⟨v, rfl, ho1, hb1⟩
    obtain ⟨A1, c1, rfl, hS1⟩ := own_sl ho1
    rw [← HPK.out] at hS1
    rw [← HPK.out]
    have HK1 : Hid (Lie w1 w1.heap.size A1 (bvs (padK key))) := hid hS1.lie
    have HB1 := hid hb1
    have HKL : Hid ((padK key).length ≤ 64) := hid (padK_length key)
    clear ho1 hS1 hb1 HD HPK
    go_wp2
    refine pads_loop A1 (padK key) c1 w1 _ _ _ _ _ _ _ _ _ _ _ _ _ _ _ _ _ _ _ _ _ _ _ _ _ _ _ _ _ _ _ _ _ _ _ _ _ _ _ HK1.out (by have := HKL.out; omega) ?_
    intro vi vo w2 u7 u8 u14 u15 u16 u17 u18 u19 u20 u21 u22 u23 u24 u25 u26 u27 u28 u29 u30 u31 u32 u33 u34 u35 hvi hvo hne hb2
    obtain ⟨Ai, ci, rfl, _⟩ := own_sl hvi
    obtain ⟨Ao, co, rfl, _⟩ := own_sl hvo
    have hB2 : Below w.heap.size w w2 := HB1.out.trans (hb2.mono HB1.out.size)
    have hzz : w1.heap.size ≤ w2.heap.size := hb2.size
    have hwz : w.heap.size ≤ w1.heap.size := HB1.out.size
    rw [padX_length, padX_length] at hne
    rw [padX_length, padX_length]
    have HVI : Hid (w2.ownsRow w1.heap.size 5 1 (.slice Ai 64 ci) 64 (bvs (padX 54 (padK key)))) := hid (by have h := hvi; unfold OwnB at h; rwa [padX_length] at h)
    have HVO : Hid (w2.ownsRow w1.heap.size 5 1 (.slice Ao 64 co) 64 (bvs (padX 92 (padK key)))) := hid (by have h := hvo; unfold OwnB at h; rwa [padX_length] at h)
    have HNE := hid hne; have HB2 := hid hB2
    have HT2 : Hid (Lie w2 w.heap.size A' (bvs text)) := hid (HA'.out.lie.below hB2)
    clear hvi hvo hne hb2 hB2
    go_wp2_with (at_builtin; refine wpList_append_lie rfl (.tmp 37) (.tmp 38) 22 rfl w1.heap.size 5 (.int .u8 0) 1 Tryz.underlying22 infoU8 rfl rfl HVI.out (bvs_length text) rfl HT2.out (bvs_one text) (by unfold maxLen; omega) (by omega) hzz ?_)
    intro v3 w3 hown3 hg3 _
    have ho3 : OwnB w3 w1.heap.size v3 (padX 54 (padK key) ++ text) := by unfold OwnB; rw [bvs_append, List.length_append, padX_length]; exact hown3
    have hvo3 : w3.ownsRow w1.heap.size 5 1 (.slice Ao 64 co) 64 (bvs (padX 92 (padK key))) := World.ownsRow.kept HVO.out hg3 (by
      rcases hq : (Value.slice Ao 64 co).ownBlock with _ | q
      · exact .inl rfl
      · exact .inr fun e => HNE.out q hq e.symm)
    have hB3 : Below w.heap.size w w3 := HB2.out.grown hg3 HB2.out.size (fun q h => by have := own_lt HVI.out q h; omega)
    have hz3 : w1.heap.size ≤ w3.heap.size := by have := hg3.size; omega
    obtain ⟨A3, c3, rfl, hS3⟩ := own_sl ho3
    have HD3 := hid (ref2_digest A3 (padX 54 (padK key) ++ text) c3 w3 (by rw [List.length_append, padX_length]; omega) hS3.sq)
    rw [List.length_append, padX_length] at HD3
    rw [List.length_append, padX_length]
    have HVO3 := hid hvo3; have HB3 := hid hB3
    clear hown3 hg3 ho3 hvo3 hB3 hS3 HVI HVO HT2
    go_wp2_with fail
    refine HD3.out.mono ?_
    rintro e w4 ⟨v4, rfl, ho4, hb4⟩
    obtain ⟨inn, hin⟩ : ∃ x, x = shaB (padX 54 (padK key) ++ text) := ⟨_, rfl⟩
    rw [← hin] at ho4
    have hil : inn.length = 32 := by rw [hin]; exact shaB_length _
    obtain ⟨A4, c4, rfl, hS4⟩ := own_sl ho4
    have hB4 : Below w.heap.size w w4 := HB3.out.trans (hb4.mono HB3.out.size)
    have hz4 : w1.heap.size ≤ w4.heap.size := by have := hb4.size; omega
    have HVO4 : Hid (w4.ownsRow w1.heap.size 5 1 (.slice Ao 64 co) 64 (bvs (padX 92 (padK key)))) := hid (World.ownsRow.kept HVO3.out (grown_of_below hb4) (Classical.em _))
    have HL4 := hid hS4.lie; have HB4 := hid hB4; have HIN := hid hin; have HIL := hid hil
    clear ho4 hb4 hS4 hB4 hin hil HD3 HVO3
    go_wp2_with (at_builtin; refine wpList_append_lie rfl (.tmp 36) (.tmp 40) 22 rfl w1.heap.size 5 (.int .u8 0) 1 Tryz.underlying22 infoU8 rfl rfl HVO4.out (bvs_length inn) rfl HL4.out (bvs_one inn) (by rw [HIL.out]; unfold maxLen; omega) (by rw [HIL.out]; omega) hz4 ?_)
    intro v5 w5 hown5 hg5 _
    have ho5 : OwnB w5 w1.heap.size v5 (padX 92 (padK key) ++ inn) := by unfold OwnB; rw [bvs_append, List.length_append, padX_length]; exact hown5
    have hB5 : Below w.heap.size w w5 := HB4.out.grown hg5 HB4.out.size (fun q h => by have := own_lt HVO4.out q h; omega)
    obtain ⟨A5, c5, rfl, hS5⟩ := own_sl ho5
    have HD5 := hid (ref2_digest A5 (padX 92 (padK key) ++ inn) c5 w5 (by rw [List.length_append, padX_length, HIL.out]; omega) hS5.sq)
    rw [List.length_append, padX_length] at HD5
    rw [List.length_append, padX_length]
    have HB5 := hid hB5
    clear hown5 hg5 ho5 hB5 hS5 HVO4 HL4
    go_wp2_with fail
    refine HD5.out.mono ?_
    rintro e w6 ⟨v6, rfl, ho6, hb6⟩
    have hfin : OwnB w6 w.heap.size v6 (macB key text) := by
      have h := own_base ho6 HB5.out.size
      rw [HIN.out] at h
      exact h
    have HFIN := hid hfin; have HBF := hid (HB5.out.trans (hb6.mono HB5.out.size))
    clear ho6 hb6 hfin HD5
    go_wp2
    go_ret
    exact ⟨_, rfl, HFIN.out, HBF.out⟩
  · have hx : ¬ (64 : Int) < (key.length : Int) := by omega
    have HPK : Hid (padK key = key) := hid (by unfold padK; rw [if_neg h64])
    have HK1 : Hid (Lie w w.heap.size A (bvs key)) := hid hA.lie
    have HB1 : Hid (Below w.heap.size w w) := hid (Below.refl _ _)
    clear hA hA' h64
    go_enter Tryz.func53, Tryz.ntmps53
    go_wp2
    refine pads_loop A key c w _ _ _ _ _ _ _ _ _ _ _ _ _ _ _ _ _ _ _ _ _ _ _ _ _ _ _ _ _ _ _ _ _ _ _ _ _ _ _ HK1.out (by omega) ?_
    rw [← HPK.out]
    intro vi vo w2 u7 u8 u14 u15 u16 u17 u18 u19 u20 u21 u22 u23 u24 u25 u26 u27 u28 u29 u30 u31 u32 u33 u34 u35 hvi hvo hne hb2
    obtain ⟨Ai, ci, rfl, _⟩ := own_sl hvi
    obtain ⟨Ao, co, rfl, _⟩ := own_sl hvo
    have hB2 : Below w.heap.size w w2 := HB1.out.trans (hb2.mono HB1.out.size)
    have hzz : w.heap.size ≤ w2.heap.size := hb2.size
    have hwz : w.heap.size ≤ w.heap.size := HB1.out.size
    rw [padX_length, padX_length] at hne
    rw [padX_length, padX_length]
    have HVI : Hid (w2.ownsRow w.heap.size 5 1 (.slice Ai 64 ci) 64 (bvs (padX 54 (padK key)))) := hid (by have h := hvi; unfold OwnB at h; rwa [padX_length] at h)
    have HVO : Hid (w2.ownsRow w.heap.size 5 1 (.slice Ao 64 co) 64 (bvs (padX 92 (padK key)))) := hid (by have h := hvo; unfold OwnB at h; rwa [padX_length] at h)
    have HNE := hid hne; have HB2 := hid hB2
    have HT2 : Hid (Lie w2 w.heap.size A' (bvs text)) := hid (HA'.out.lie.below hB2)
    clear hvi hvo hne hb2 hB2
    go_wp2_with (at_builtin; refine wpList_append_lie rfl (.tmp 37) (.tmp 38) 22 rfl w.heap.size 5 (.int .u8 0) 1 Tryz.underlying22 infoU8 rfl rfl HVI.out (bvs_length text) rfl HT2.out (bvs_one text) (by unfold maxLen; omega) (by omega) hzz ?_)
    intro v3 w3 hown3 hg3 _
    have ho3 : OwnB w3 w.heap.size v3 (padX 54 (padK key) ++ text) := by unfold OwnB; rw [bvs_append, List.length_append, padX_length]; exact hown3
    have hvo3 : w3.ownsRow w.heap.size 5 1 (.slice Ao 64 co) 64 (bvs (padX 92 (padK key))) := World.ownsRow.kept HVO.out hg3 (by
      rcases hq : (Value.slice Ao 64 co).ownBlock with _ | q
      · exact .inl rfl
      · exact .inr fun e => HNE.out q hq e.symm)
    have hB3 : Below w.heap.size w w3 := HB2.out.grown hg3 HB2.out.size (fun q h => by have := own_lt HVI.out q h; omega)
    have hz3 : w.heap.size ≤ w3.heap.size := by have := hg3.size; omega
    obtain ⟨A3, c3, rfl, hS3⟩ := own_sl ho3
    have HD3 := hid (ref2_digest A3 (padX 54 (padK key) ++ text) c3 w3 (by rw [List.length_append, padX_length]; omega) hS3.sq)
    rw [List.length_append, padX_length] at HD3
    rw [List.length_append, padX_length]
    have HVO3 := hid hvo3; have HB3 := hid hB3
    clear hown3 hg3 ho3 hvo3 hB3 hS3 HVI HVO HT2
    go_wp2_with fail
    refine HD3.out.mono ?_
    rintro e w4 ⟨v4, rfl, ho4, hb4⟩
    obtain ⟨inn, hin⟩ : ∃ x, x = shaB (padX 54 (padK key) ++ text) := ⟨_, rfl⟩
    rw [← hin] at ho4
    have hil : inn.length = 32 := by rw [hin]; exact shaB_length _
    obtain ⟨A4, c4, rfl, hS4⟩ := own_sl ho4
    have hB4 : Below w.heap.size w w4 := HB3.out.trans (hb4.mono HB3.out.size)
    have hz4 : w.heap.size ≤ w4.heap.size := by have := hb4.size; omega
    have HVO4 : Hid (w4.ownsRow w.heap.size 5 1 (.slice Ao 64 co) 64 (bvs (padX 92 (padK key)))) := hid (World.ownsRow.kept HVO3.out (grown_of_below hb4) (Classical.em _))
    have HL4 := hid hS4.lie; have HB4 := hid hB4; have HIN := hid hin; have HIL := hid hil
    clear ho4 hb4 hS4 hB4 hin hil HD3 HVO3
    go_wp2_with (at_builtin; refine wpList_append_lie rfl (.tmp 36) (.tmp 40) 22 rfl w.heap.size 5 (.int .u8 0) 1 Tryz.underlying22 infoU8 rfl rfl HVO4.out (bvs_length inn) rfl HL4.out (bvs_one inn) (by rw [HIL.out]; unfold maxLen; omega) (by rw [HIL.out]; omega) hz4 ?_)
    intro v5 w5 hown5 hg5 _
    have ho5 : OwnB w5 w.heap.size v5 (padX 92 (padK key) ++ inn) := by unfold OwnB; rw [bvs_append, List.length_append, padX_length]; exact hown5
    have hB5 : Below w.heap.size w w5 := HB4.out.grown hg5 HB4.out.size (fun q h => by have := own_lt HVO4.out q h; omega)
    obtain ⟨A5, c5, rfl, hS5⟩ := own_sl ho5
    have HD5 := hid (ref2_digest A5 (padX 92 (padK key) ++ inn) c5 w5 (by rw [List.length_append, padX_length, HIL.out]; omega) hS5.sq)
    rw [List.length_append, padX_length] at HD5
    rw [List.length_append, padX_length]
    have HB5 := hid hB5
    clear hown5 hg5 ho5 hB5 hS5 HVO4 HL4
    go_wp2_with fail
    refine HD5.out.mono ?_
    rintro e w6 ⟨v6, rfl, ho6, hb6⟩
    have hfin : OwnB w6 w.heap.size v6 (macB key text) := by
      have h := own_base ho6 HB5.out.size
      rw [HIN.out] at h
      exact h
    have HFIN := hid hfin; have HBF := hid (HB5.out.trans (hb6.mono HB5.out.size))
    clear ho6 hb6 hfin HD5
    go_wp2
    go_ret
    exact ⟨_, rfl, HFIN.out, HBF.out⟩
end
end Go.Proofs.YtpkmidaflnbobaaGreatDoor
end
section
namespace Go.Proofs.YtpkmidaflnbobaaGreatDoor
open Go.RowKit
set_option linter.unusedVariables false
set_option linter.unusedSimpArgs false
theorem infoSB : (Tryz.prog.info? 22).map (fun i => (i.zero, i.size, i.bytes)) = some (some (.slice none 0 0), 1, 24) := by kernel_rfl
/-- Two rows whose element types differ share no block. -/
theorem own_ne {w : World} {B B' : Nat} {e e' : TypeId} {s s' n n' : Nat} {v v' : Value} {xs ys : List Value} (h : w.ownsRow B e s v n xs) (h' : w.ownsRow B' e' s' v' n' ys) (hne : e ≠ e') : v.ownBlock = none ∨ v.ownBlock ≠ v'.ownBlock := by
  rcases h.2 with ⟨rfl, _⟩ | ⟨g, cap, cur, rfl, _, hg, _⟩
  · exact .inl rfl
  rcases h'.2 with ⟨rfl, _⟩ | ⟨g', cap', cur', rfl, _, hg', _⟩
  · exact .inr (by simp [Value.ownBlock])
  · refine .inr fun e0 => ?_
    have : g = g' := by simpa [Value.ownBlock] using e0
    subst this
    rw [hg] at hg'
    injection hg' with hg'
    injection hg' with _ ht
    exact hne ht
/-- The blocks as a row of rows, each the call's own. -/
def Blks (w : World) (B : Nat) (key info : List UInt8) (v : Value) (i : Nat) : Prop :=
  ∃ vs : List Value, vs.length = i ∧ w.ownsRow B 22 1 v i vs ∧ ∀ j x, vs[j]? = some x → OwnB w B x (kBlk key info (j + 1))
theorem Blks.kept {w w' : World} {B : Nat} {key info : List UInt8} {v : Value} {i : Nat} (h : Blks w B key info v i) (hb : Below w.heap.size w w') : Blks w' B key info v i := by
  obtain ⟨vs, hl, ho, he⟩ := h
  exact ⟨vs, hl, World.ownsRow.kept ho (grown_of_below hb) (Classical.em _), fun j x hx => World.ownsRow.kept (he j x hx) (grown_of_below hb) (Classical.em _)⟩
theorem Blks.nil (w : World) (B : Nat) (key info : List UInt8) : Blks w B key info (.slice none 0 0) 0 := ⟨[], rfl, World.ownsRow_nil _ _ _ _, fun j x h => by simp at h⟩
/-- One block more. -/
theorem Blks.snoc {w2 w3 : World} {B : Nat} {key info : List UInt8} {v v2 x : Value} {i : Nat} {vs : List Value} {o : Obj} (hl : vs.length = i) (he : ∀ j y, vs[j]? = some y → OwnB w2 B y (kBlk key info (j + 1))) (ho : w2.ownsRow B 22 1 v i vs) (hx : OwnB w2 B x (kBlk key info (i + 1)))
    (hn : w3.ownsRow B 22 1 v2 (i + 1) (vs ++ [x])) (hg : (w2.alloc o).grownBy w3 v.ownBlock) : Blks w3 B key info v2 (i + 1) := by
  refine ⟨vs ++ [x], by simp [hl], hn, fun j y hy => ?_⟩
  have hk : OwnB w2 B y (kBlk key info (j + 1)) := by
    by_cases hj : j < vs.length
    · rw [List.getElem?_append_left hj] at hy; exact he j y hy
    · rw [List.getElem?_append_right (by omega)] at hy
      have : j - vs.length = 0 := by
        have := (List.getElem?_eq_some_iff.1 hy).1
        simp at this; omega
      rw [this] at hy
      have hji : j = i := by omega
      subst hji
      simp at hy
      subst hy
      exact hx
  exact World.ownsRow.kept (World.ownsRow.alloc hk o) hg (own_ne hk ho (by decide))
/-- The j-th block, where there is one: its cell, and what it leads to. -/
theorem Blks.at_ {w : World} {B : Nat} {key info : List UInt8} {A : Option Addr} {c i j : Nat} (h : Blks w B key info (.slice A i c) i) (hj : j < i) :
    ∃ b A' c', A = some ⟨b, 0, none⟩ ∧ i ≤ c ∧ c ≤ 9223372036854775807 ∧ b < w.heap.size ∧ w.cell? ⟨b, j, none⟩ = some (.slice A' 32 c') ∧ Lie w w.heap.size A' (bvs (kBlk key info (j + 1))) := by
  obtain ⟨vs, hl, ho, he⟩ := h
  obtain ⟨g, cap, cur, hv, _, hg, h1, h2, _, _⟩ := ho.2.resolve_left (fun h => by have := h.2; omega)
  injection hv with hA hn hc
  subst hA; subst hc
  have hx : vs[j]? = some vs[j] := List.getElem?_eq_getElem (by omega)
  have hO := he j _ hx
  obtain ⟨A', c', hv', hS⟩ := own_sl hO
  rw [kBlk_length] at hv'
  refine ⟨g, A', c', rfl, h1, by simpa [maxLen] using h2, block_lt hg, ?_, hS.lie⟩
  have := ho.cells (g := g) rfl j _ hx
  rw [← hv']
  simpa [Addr.add_lit] using this
theorem ref4_tag_n (A : Option Addr) (key : List UInt8) (c : Nat) (A' : Option Addr) (text : List UInt8) (n c' : Nat) (w : World) (hA : Sq w w.heap.size A c (bvs key)) (hA' : Sq w w.heap.size A' c' (bvs text)) (ht : text.length = n) (hn : key.length ≤ 1000000000) (hn2 : n ≤ 1000000000) :
    Calls Tryz.prog 53 #[.slice A key.length c, .slice A' n c'] w fun e w' => ∃ v, e = .returned v ∧ OwnB w' w.heap.size v (macB key text) ∧ Below w.heap.size w w' := by
  subst ht
  exact ref4_tag A key c A' text c' w hA hA' hn hn2
set_option maxRecDepth 100000 in
set_option maxHeartbeats 1600000 in
theorem ref5_expandQ (A : Option Addr) (key : List UInt8) (c : Nat) (A' : Option Addr) (info : List UInt8) (c' n : Nat) (w : World) (hA : Sq w w.heap.size A c (bvs key)) (hA' : Sq w w.heap.size A' c' (bvs info))
    (hn : n ≤ 8160) (hk : key.length ≤ 1000000000) (hi : info.length ≤ 100000000) :
    Calls Tryz.prog 52 #[.slice A key.length c, .slice A' info.length c', .int .i64 (n : Int)] w fun e w' => ∃ A2 c2, e = .returned (.slice A2 n c2) ∧ Sq w' w'.heap.size A2 c2 (bvs (kdfB key info n)) ∧ Below w.heap.size w w' := by
  have HA := hid hA; have HA' := hid hA'
  clear hA hA'
  obtain ⟨K, hK⟩ : ∃ K, K = (n + 31) / 32 := ⟨_, rfl⟩
  have hKl : K ≤ 255 := by omega
  have hdiv : Int.tdiv ((n : Int) + 31) 32 = (K : Int) := by
    rw [hK, show (n : Int) + 31 = ((n + 31 : Nat) : Int) by omega]; exact (Int.ofNat_tdiv (n + 31) 32).symm
  have HK := hid hK
  clear hK
  go_enter Tryz.func52, Tryz.ntmps52
  go_wp2
  go_loopg [7, 8] K (fun r bl i wr => ∃ k : Nat, k + r = K ∧ i = .int .i64 (k : Int) ∧ Blks wr w.heap.size key info bl k ∧ Below w.heap.size w wr)
  case atStart => exact ⟨0, by omega, rfl, Blks.nil _ _ _ _, Below.refl _ _⟩
  case round =>
    obtain ⟨k, hk', rfl, hbl, hb⟩ := hrel
    have HK' := hid hk'; have HBL := hid hbl; have HB := hid hb
    clear hk' hbl hb
    by_cases hlt : k < K
    · have hx : (k : Int) < (K : Int) := by omega
      obtain ⟨Ab, cb, rfl⟩ : ∃ Ab cb, u7 = .slice Ab k cb := by
        obtain ⟨vs, hl, ho, _⟩ := HBL.out
        obtain ⟨Ab, cb, hv, _⟩ := own_sl ho
        exact ⟨Ab, cb, hv⟩
      by_cases h0 : k = 0
      · have h0i : ¬ (0 : Int) < (k : Int) := by omega
        obtain ⟨wt, hwt⟩ : ∃ wt, wt = wr := ⟨_, rfl⟩
        have OT : Hid (OwnB wt wr.heap.size (.slice none 0 0) (kBlk key info k)) := hid (by rw [h0]; exact World.ownsRow_nil _ _ _ _)
        have BT : Hid (Below wr.heap.size wr wt) := hid (by rw [hwt]; exact Below.refl _ _)
        rw [← hwt]
        clear hwt h0
        have hOT := OT.out
        have hBT := BT.out
        have hzt : w.heap.size ≤ wt.heap.size := Nat.le_trans HB.out.size hBT.size
        have HLI : Hid (Lie wt w.heap.size A' (bvs info)) := hid (HA'.out.lie.below (HB.out.trans (hBT.mono HB.out.size)))
        have hklen := kBlk_le key info k
        clear hOT hBT
        go_wp2_with (at_builtin; go_loud (refine wpList_append_lie rfl (.tmp 28) (.tmp 29) 22 rfl wr.heap.size 5 (.int .u8 0) 1 Tryz.underlying22 infoU8 rfl rfl OT.out (bvs_length info) rfl HLI.out (bvs_one info) ?p1 ?p2 ?p3 ?_))
        case p1 => unfold maxLen; omega
        case p2 => omega
        case p3 => exact BT.out.size
        intro v5 w5 hown5 hg5 hat5
        have hO5 : OwnB w5 wr.heap.size v5 (kBlk key info k ++ info) := by unfold OwnB; rw [bvs_append, List.length_append]; exact hown5
        have hB5 : Below wr.heap.size wr w5 := BT.out.grown hg5 BT.out.size (fun q h => own_lt OT.out q h)
        obtain ⟨A5, c5, rfl, _⟩ := own_sl hO5
        obtain ⟨L5, hL5⟩ : ∃ L, L = (kBlk key info k ++ info).length := ⟨_, rfl⟩
        rw [← hL5]
        have hl5 : L5 ≤ 100000032 := by rw [hL5, List.length_append]; omega
        have HO5 : Hid (w5.ownsRow wr.heap.size 5 1 (.slice A5 L5 c5) L5 (bvs (kBlk key info k ++ info))) := hid (by have h := hO5; unfold OwnB at h; rwa [← hL5] at h)
        have HB5 := hid hB5; have HL5 := hid hL5.symm
        have HO5' := hid (World.ownsRow.alloc HO5.out (.cells #[.int .u8 ((k : Int) + 1)] 5))
        clear hown5 hg5 hat5 hO5 hB5 hL5 OT BT HLI
        have hkw : IntKind.i64.wrap ((k : Int) + 1) = (k : Int) + 1 := IntWalk.i64_in _ (by omega)
        go_wp2_with (at_builtin; go_loud (refine wpList_append_lie rfl (.tmp 30) (.tmp 34) 22 rfl wr.heap.size 5 (.int .u8 0) 1 Tryz.underlying22 infoU8 rfl rfl HO5'.out rfl rfl (Lie.new1 _ _ _) ?p0 ?p4 ?p5 ?p6 ?_))
        case p0 => intro u hu; simp at hu; subst hu; rfl
        case p4 => rw [List.length_singleton]; unfold maxLen; omega
        case p5 => rw [List.length_singleton]; omega
        case p6 => (have := HB5.out.size; simp; omega)
        intro v6 w6 hown6 hg6 hat6
        have hO6 : OwnB w6 wr.heap.size v6 (kBlk key info k ++ info ++ [UInt8.ofNat (k + 1)]) := own_snoc hown6 (by rw [← HL5.out]) (by rw [ofNat_val]; omega)
        have hB6 : Below wr.heap.size wr w6 := (HB5.out.alloc HB5.out.size _).grown hg6 (by have := HB5.out.size; simp; omega) (fun q h => own_lt HO5.out q h)
        obtain ⟨A6, c6, rfl, hS6⟩ := own_sl hO6
        obtain ⟨L6, hL6⟩ : ∃ L, L = (kBlk key info k ++ info ++ [UInt8.ofNat (k + 1)]).length := ⟨_, rfl⟩
        rw [← hL6]
        have hl6 : L6 ≤ 100000033 := by rw [hL6, List.length_append, HL5.out]; simp; omega
        have hB6w : Below w.heap.size w w6 := HB.out.trans (hB6.mono HB.out.size)
        have HT := ref4_tag_n A key c A6 (kBlk key info k ++ info ++ [UInt8.ofNat (k + 1)]) L6 c6 w6 ((HA.out.below hB6w).more hB6w.size) hS6.sq hL6.symm hk (by omega)
        have hkb : macB key (kBlk key info k ++ (info ++ [UInt8.ofNat (k + 1)])) = kBlk key info (k + 1) := rfl
        rw [List.append_assoc, hkb] at HT
        have HT := hid HT; have HB6 := hid hB6; have HB6w := hid hB6w
        clear hown6 hg6 hat6 hO6 hB6 hL6 hS6 hB6w HO5 HO5' HL5
        go_wp2_with fail
        refine HT.out.mono ?_
        rintro e w7 ⟨v7, rfl, ho7, hb7⟩
        obtain ⟨A7, c7, rfl, _⟩ := own_sl ho7
        rw [kBlk_length]
        rw [kBlk_length] at ho7
        have hb7r : Below wr.heap.size wr w7 := HB6.out.trans (hb7.mono HB6.out.size)
        have HBL7 := hid (HBL.out.kept hb7r)
        have HO7 : Hid (OwnB w7 w.heap.size (.slice A7 32 c7) (kBlk key info (k + 1))) := hid (own_base ho7 HB6w.out.size)
        have HB7 := hid (HB.out.trans (hb7r.mono HB.out.size))
        obtain ⟨vs, hvl, hvo, hve⟩ := HBL7.out
        have HVO := hid (World.ownsRow.alloc hvo (.cells #[.slice A7 32 c7] 22)); have HV0 := hid hvo; have HVE := hid hve; have HVL := hid hvl
        clear ho7 hb7 hb7r hvl hvo hve HT HBL7
        go_wp2_with (at_builtin; go_loud (refine wpList_append_lie rfl (.tmp 36) (.tmp 40) 60 rfl w.heap.size 22 (.slice none 0 0) 24 Tryz.underlying60 infoSB rfl rfl HVO.out rfl rfl (Lie.new1 _ _ _) ?p7 ?p8 ?p9 ?pa ?_))
        case p7 => intro u hu; simp at hu; subst hu; rfl
        case p8 => rw [List.length_singleton]; unfold maxLen; omega
        case p9 => rw [List.length_singleton]; omega
        case pa => (have := HB7.out.size; simp; omega)
        intro v8 w8 hown8 hg8 hat8
        have hBL8 : Blks w8 w.heap.size key info v8 (k + 1) := Blks.snoc HVL.out HVE.out HV0.out HO7.out hown8 hg8
        have hB8 : Below w.heap.size w w8 := (HB7.out.alloc HB7.out.size _).grown hg8 (by have := HB7.out.size; simp; omega) (fun q h => own_lt HV0.out q h)
        have HBL8 := hid hBL8; have HB8 := hid hB8
        clear hown8 hg8 hat8 hBL8 hB8 HVO HV0 HVE HVL HO7
        go_wp2
        have hk2 := HK'.out
        go_roundg (K - k - 1)
        case measure => omega
        case rel => exact ⟨k + 1, by omega, by go_num, HBL8.out, HB8.out⟩
      · have h0i : (0 : Int) < (k : Int) := by omega
        obtain ⟨b, Aj, cj, rfl, hkc, hc63, hbl, hcell, hlie⟩ := HBL.out.at_ (j := k - 1) (by omega)
        rw [Nat.sub_add_cancel (by omega)] at hlie
        have hk1w : IntKind.i64.wrap ((k : Int) - 1) = ((k - 1 : Nat) : Int) := by rw [IntWalk.i64_in _ (by omega)]; omega
        have hk1 : (k : Int) - 1 = ((k - 1 : Nat) : Int) := by omega
        have hk0 : (0 : Int) ≤ ((k - 1 : Nat) : Int) := by omega
        have hkk : ((k - 1 : Nat) : Int) < (k : Int) := by omega
        obtain ⟨j, hj⟩ : ∃ j, j = k - 1 := ⟨_, rfl⟩
        rw [← hj] at hk1w hk1 hk0 hkk hcell
        have HLJ := hid hlie
        have HKL : Hid ((bvs (kBlk key info k)).length = 32) := hid (by rw [bvs_length, show k = (k - 1) + 1 by omega, kBlk_length])
        have HKL2 : Hid ((kBlk key info k).length = 32) := hid (by have := HKL.out; rwa [bvs_length] at this)
        clear hj hlie
        go_wp2_with (at_builtin; go_loud (refine wpList_append_lie rfl (.tmp 21) (.tmp 26) 22 rfl wr.heap.size 5 (.int .u8 0) 1 Tryz.underlying22 infoU8 rfl rfl (World.ownsRow_nil _ _ _ _) HKL.out rfl HLJ.out (bvs_one _) ?z1 ?z2 ?z3 ?_))
        case z1 => unfold maxLen; omega
        case z2 => omega
        case z3 => exact Nat.le_refl _
        intro v4 wt hown4 hg4 hat4
        have OT : Hid (OwnB wt wr.heap.size v4 (kBlk key info k)) := hid (by
          unfold OwnB
          rw [HKL2.out]
          simpa using hown4)
        have BT : Hid (Below wr.heap.size wr wt) := hid ((Below.refl _ _).grown hg4 (Nat.le_refl _) (fun q h => by simp [Value.ownBlock] at h))
        obtain ⟨A4, c4, rfl, _⟩ := own_sl OT.out
        rw [HKL2.out] at OT
        rw [HKL2.out]
        clear hown4 hg4 hat4 hcell hkk hk0 hk1 hk1w HKL HLJ
        have hOT := OT.out
        have hBT := BT.out
        have hzt : w.heap.size ≤ wt.heap.size := Nat.le_trans HB.out.size hBT.size
        have HLI : Hid (Lie wt w.heap.size A' (bvs info)) := hid (HA'.out.lie.below (HB.out.trans (hBT.mono HB.out.size)))
        have hklen := kBlk_le key info k
        clear hOT hBT
        go_wp2_with (at_builtin; go_loud (refine wpList_append_lie rfl (.tmp 28) (.tmp 29) 22 rfl wr.heap.size 5 (.int .u8 0) 1 Tryz.underlying22 infoU8 rfl rfl OT.out (bvs_length info) rfl HLI.out (bvs_one info) ?q1 ?q2 ?q3 ?_))
        case q1 => unfold maxLen; omega
        case q2 => omega
        case q3 => exact BT.out.size
        intro v5 w5 hown5 hg5 hat5
        have hO5 : OwnB w5 wr.heap.size v5 (kBlk key info k ++ info) := by unfold OwnB; rw [bvs_append, List.length_append]; exact hown5
        have hB5 : Below wr.heap.size wr w5 := BT.out.grown hg5 BT.out.size (fun q h => own_lt OT.out q h)
        obtain ⟨A5, c5, rfl, _⟩ := own_sl hO5
        obtain ⟨L5, hL5⟩ : ∃ L, L = (kBlk key info k ++ info).length := ⟨_, rfl⟩
        rw [← hL5]
        have hl5 : L5 ≤ 100000032 := by rw [hL5, List.length_append]; omega
        have HO5 : Hid (w5.ownsRow wr.heap.size 5 1 (.slice A5 L5 c5) L5 (bvs (kBlk key info k ++ info))) := hid (by have h := hO5; unfold OwnB at h; rwa [← hL5] at h)
        have HB5 := hid hB5; have HL5 := hid hL5.symm
        have HO5' := hid (World.ownsRow.alloc HO5.out (.cells #[.int .u8 ((k : Int) + 1)] 5))
        clear hown5 hg5 hat5 hO5 hB5 hL5 OT BT HLI
        have hkw : IntKind.i64.wrap ((k : Int) + 1) = (k : Int) + 1 := IntWalk.i64_in _ (by omega)
        go_wp2_with (at_builtin; go_loud (refine wpList_append_lie rfl (.tmp 30) (.tmp 34) 22 rfl wr.heap.size 5 (.int .u8 0) 1 Tryz.underlying22 infoU8 rfl rfl HO5'.out rfl rfl (Lie.new1 _ _ _) ?q0 ?q4 ?q5 ?q6 ?_))
        case q0 => intro u hu; simp at hu; subst hu; rfl
        case q4 => rw [List.length_singleton]; unfold maxLen; omega
        case q5 => rw [List.length_singleton]; omega
        case q6 => (have := HB5.out.size; simp; omega)
        intro v6 w6 hown6 hg6 hat6
        have hO6 : OwnB w6 wr.heap.size v6 (kBlk key info k ++ info ++ [UInt8.ofNat (k + 1)]) := own_snoc hown6 (by rw [← HL5.out]) (by rw [ofNat_val]; omega)
        have hB6 : Below wr.heap.size wr w6 := (HB5.out.alloc HB5.out.size _).grown hg6 (by have := HB5.out.size; simp; omega) (fun q h => own_lt HO5.out q h)
        obtain ⟨A6, c6, rfl, hS6⟩ := own_sl hO6
        obtain ⟨L6, hL6⟩ : ∃ L, L = (kBlk key info k ++ info ++ [UInt8.ofNat (k + 1)]).length := ⟨_, rfl⟩
        rw [← hL6]
        have hl6 : L6 ≤ 100000033 := by rw [hL6, List.length_append, HL5.out]; simp; omega
        have hB6w : Below w.heap.size w w6 := HB.out.trans (hB6.mono HB.out.size)
        have HT := ref4_tag_n A key c A6 (kBlk key info k ++ info ++ [UInt8.ofNat (k + 1)]) L6 c6 w6 ((HA.out.below hB6w).more hB6w.size) hS6.sq hL6.symm hk (by omega)
        have hkb : macB key (kBlk key info k ++ (info ++ [UInt8.ofNat (k + 1)])) = kBlk key info (k + 1) := rfl
        rw [List.append_assoc, hkb] at HT
        have HT := hid HT; have HB6 := hid hB6; have HB6w := hid hB6w
        clear hown6 hg6 hat6 hO6 hB6 hL6 hS6 hB6w HO5 HO5' HL5
        go_wp2_with fail
        refine HT.out.mono ?_
        rintro e w7 ⟨v7, rfl, ho7, hb7⟩
        obtain ⟨A7, c7, rfl, _⟩ := own_sl ho7
        rw [kBlk_length]
        rw [kBlk_length] at ho7
        have hb7r : Below wr.heap.size wr w7 := HB6.out.trans (hb7.mono HB6.out.size)
        have HBL7 := hid (HBL.out.kept hb7r)
        have HO7 : Hid (OwnB w7 w.heap.size (.slice A7 32 c7) (kBlk key info (k + 1))) := hid (own_base ho7 HB6w.out.size)
        have HB7 := hid (HB.out.trans (hb7r.mono HB.out.size))
        obtain ⟨vs, hvl, hvo, hve⟩ := HBL7.out
        have HVO := hid (World.ownsRow.alloc hvo (.cells #[.slice A7 32 c7] 22)); have HV0 := hid hvo; have HVE := hid hve; have HVL := hid hvl
        clear ho7 hb7 hb7r hvl hvo hve HT HBL7
        go_wp2_with (at_builtin; go_loud (refine wpList_append_lie rfl (.tmp 36) (.tmp 40) 60 rfl w.heap.size 22 (.slice none 0 0) 24 Tryz.underlying60 infoSB rfl rfl HVO.out rfl rfl (Lie.new1 _ _ _) ?q7 ?q8 ?q9 ?qa ?_))
        case q7 => intro u hu; simp at hu; subst hu; rfl
        case q8 => rw [List.length_singleton]; unfold maxLen; omega
        case q9 => rw [List.length_singleton]; omega
        case qa => (have := HB7.out.size; simp; omega)
        intro v8 w8 hown8 hg8 hat8
        have hBL8 : Blks w8 w.heap.size key info v8 (k + 1) := Blks.snoc HVL.out HVE.out HV0.out HO7.out hown8 hg8
        have hB8 : Below w.heap.size w w8 := (HB7.out.alloc HB7.out.size _).grown hg8 (by have := HB7.out.size; simp; omega) (fun q h => own_lt HV0.out q h)
        have HBL8 := hid hBL8; have HB8 := hid hB8
        clear hown8 hg8 hat8 hBL8 hB8 HVO HV0 HVE HVL HO7
        go_wp2
        have hk2 := HK'.out
        go_roundg (K - k - 1)
        case measure => omega
        case rel => exact ⟨k + 1, by omega, by go_num, HBL8.out, HB8.out⟩
    · obtain rfl : k = K := by have := HK'.out; omega
      obtain ⟨Ab, cb, rfl⟩ : ∃ Ab cb, u7 = .slice Ab k cb := by
        obtain ⟨vs, hl, ho, _⟩ := HBL.out
        obtain ⟨Ab, cb, hv, _⟩ := own_sl ho
        exact ⟨Ab, cb, hv⟩
      obtain ⟨w9, rfl⟩ : ∃ w9 : World, w9 = wr := ⟨_, rfl⟩
      have HW := hid HB.out.size
      clear HK' hlt
      go_wp2
      go_loopg [10, 11] k (fun r out i wr => ∃ j : Nat, j + r = k ∧ i = .int .i64 (j : Int) ∧ OwnB wr w9.heap.size out (kAll key info j) ∧ Below w9.heap.size w9 wr)
      case atStart => exact ⟨0, by omega, rfl, World.ownsRow_nil _ _ _ _, Below.refl _ _⟩
      case round =>
        obtain ⟨j, hj, rfl, ho, hbq⟩ := hrel
        have HJ := hid hj; have HO := hid ho; have HBQ := hid hbq
        have HBK := hid (HBL.out.kept hbq)
        clear hj ho hbq
        by_cases hlt : j < k
        · obtain ⟨b, Aj, cj, rfl, hkc, hc63, hbl, hcell, hlie⟩ := HBK.out.at_ hlt
          have hxj : (j : Int) < (k : Int) := by omega
          have hj0 : (0 : Int) ≤ (j : Int) := by omega
          have hlen := kAll_length key info j
          have HLJ := hid hlie
          have HKL : Hid ((bvs (kBlk key info (j + 1))).length = 32) := hid (by rw [bvs_length, kBlk_length])
          have HLN := hid hlen
          clear hlie hlen
          go_wp2_with (at_builtin; go_loud (refine wpList_append_lie rfl (.tmp 48) (.tmp 52) 22 rfl w9.heap.size 5 (.int .u8 0) 1 Tryz.underlying22 infoU8 rfl rfl HO.out HKL.out rfl HLJ.out (bvs_one _) ?y1 ?y2 ?y3 ?_))
          case y1 => rw [HLN.out]; unfold maxLen; omega
          case y2 => rw [HLN.out]; omega
          case y3 => exact HBQ.out.size
          intro v4 w4 hown4 hg4 hat4
          have hO4 : OwnB w4 w9.heap.size v4 (kAll key info (j + 1)) := by
            unfold OwnB
            rw [kAll, List.length_append, kBlk_length, bvs_append]
            exact hown4
          have hB4 : Below w9.heap.size w9 w4 := HBQ.out.grown hg4 HBQ.out.size (fun q h => own_lt HO.out q h)
          have HO4 := hid hO4; have HB4 := hid hB4
          clear hown4 hg4 hat4 hO4 hB4 hcell HBK
          go_wp2
          have hj2 := HJ.out
          go_roundg (k - j - 1)
          case measure => omega
          case rel => exact ⟨j + 1, by omega, by go_num, HO4.out, HB4.out⟩
        · obtain rfl : j = k := by have := HJ.out; omega
          have hxj : ¬ (j : Int) < (j : Int) := by omega
          obtain ⟨Ao, co, rfl, hSo⟩ := own_sl HO.out
          have hcap := hSo.cap
          rw [bvs_length, kAll_length] at hcap
          rw [kAll_length]
          obtain ⟨hcp1, hcp2⟩ := hcap
          have hKn := HK.out
          have hn1 : (n : Int) ≤ (co : Int) := by omega
          have hn0 : (0 : Int) ≤ (n : Int) := by omega
          have HLO : Hid (Sq wr wr.heap.size Ao co (bvs (kdfB key info n))) := hid (by
            have h := hSo.sq.take n
            rw [bvs, ← List.map_take, HK.out] at h
            exact h)
          have HBE := hid (HB.out.trans (HBQ.out.mono HB.out.size))
          clear hSo HO HBQ HBK hKn
          go_wp2
          go_ret
          exact ⟨Ao, co, rfl, HLO.out, HBE.out⟩
end Go.Proofs.YtpkmidaflnbobaaGreatDoor
end
section
namespace Go.Proofs.YtpkmidaflnbobaaGreatDoor
open Go.RowKit
set_option linter.unusedVariables false
set_option linter.unusedSimpArgs false
theorem below_of_none {w w' : World} (h : w.grownBy w' none) : Below w.heap.size w w' := below_of_grown h (Nat.le_refl _) (fun _ h => by cases h)
end Go.Proofs.YtpkmidaflnbobaaGreatDoor
end
