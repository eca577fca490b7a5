/-
  The document's own longer digest: what is added behind a block's rounds.
-/
import Derived.Test.YtokggppfobbblaaDoorRef03d
namespace Go.Proofs.YtokggppfobbblaaDoor
open Go.RowKit
set_option linter.unusedVariables false
set_option linter.unusedSimpArgs false

/-- The first i of two states added, the rest of the first as it is. -/
def plusToL (s v : St) (i : Nat) : List Nat := (s.plusL v).list.take i ++ s.list.drop i
theorem plusToL_zero (s v : St) : plusToL s v 0 = s.list := by simp [plusToL]
theorem plusToL_end (s v : St) : plusToL s v 8 = (s.plusL v).list := by simp [plusToL, St.list]
theorem plusToL_length (s v : St) (i : Nat) (h : i ≤ 8) : (plusToL s v i).length = 8 := by simp [plusToL]; omega
theorem plusToL_get (s v : St) (i : Nat) (h : i < 8) : (plusToL s v i)[i]? = some (s.list.getD i 0) := by
  rw [plusToL, List.getElem?_append_right (by rw [List.length_take, St.list_length]; omega), List.getElem?_drop]
  have : (List.take i (s.plusL v).list).length = i := by rw [List.length_take, St.list_length]; omega
  rw [this, Nat.sub_self, Nat.add_zero, List.getD_eq_getElem?_getD, List.getElem?_eq_getElem (by simpa using h)]; rfl
theorem plusNL_get (s v : St) (i : Nat) (h : i < 8) : (s.plusL v).list[i]? = some ((s.list.getD i 0 + v.list.getD i 0) % 18446744073709551616) := by
  have : i = 0 ∨ i = 1 ∨ i = 2 ∨ i = 3 ∨ i = 4 ∨ i = 5 ∨ i = 6 ∨ i = 7 := by omega
  rcases this with rfl | rfl | rfl | rfl | rfl | rfl | rfl | rfl <;> rfl
theorem plusToL_next (s v : St) (i r : Nat) (h : i < 8) (hr : r = (s.list.getD i 0 + v.list.getD i 0) % 18446744073709551616) : (plusToL s v i).set i r = plusToL s v (i + 1) := by
  have hl : (List.take i (s.plusL v).list).length = i := by rw [List.length_take, St.list_length]; omega
  have h1 : (s.plusL v).list.take (i + 1) = (s.plusL v).list.take i ++ [r] := by
    rw [List.take_succ_eq_append_getElem (by simpa using h)]
    congr 2
    have := plusNL_get s v i h
    rw [List.getElem?_eq_getElem (by simpa using h)] at this
    injection this with this
    rw [this, hr]
  have h2 : s.list.drop i = s.list[i]'(by simpa using h) :: s.list.drop (i + 1) := List.drop_eq_getElem_cons (by simpa using h)
  rw [plusToL, plusToL, h1, List.set_append_right _ _ (by omega), hl, Nat.sub_self, h2, List.set_cons_zero, List.append_assoc]
  rfl
theorem listL_lt (s : St) (hs : s.okL) (i : Nat) : s.list.getD i 0 < 18446744073709551616 := by
  obtain ⟨h1, h2, h3, h4, h5, h6, h7, h8⟩ := hs
  by_cases h : i < 8
  · have : i = 0 ∨ i = 1 ∨ i = 2 ∨ i = 3 ∨ i = 4 ∨ i = 5 ∨ i = 6 ∨ i = 7 := by omega
    rcases this with rfl | rfl | rfl | rfl | rfl | rfl | rfl | rfl <;> assumption
  · rw [List.getD_eq_getElem?_getD, List.getElem?_eq_none (by simp; omega)]; decide

set_option maxRecDepth 100000 in
set_option maxHeartbeats 4000000 in
theorem plus3_loop {Q : Exit → Act → World → Prop} (gh ch gq cq : Nat) (s v : St) (w0 : World) (t0 t1 t2 t3 t4 t5 t6 t7 t8 t10 t11 t12 t13 t14 t15 t16 t17 t18 t19 t21 t22 t23 t24 t25 t26 t27 t28 t30 t31 t32 t33 t34 t35 t36 t37 t38 t39 t40 t41 t42 t43 t44 t45 t46 t47 t48 t49 t50 t51 t52 t53 t54 t55 t56 t57 t58 t59 t60 t61 t62 t63 t64 t65 t66 t67 t68 t69 t70 t71 t72 t73 t74 t75 t76 t77 t78 t79 t80 t81 t82 t83 t84 t85 t86 t87 t88 t89 t90 t91 t92 t93 t94 t95 t96 t97 t98 t99 t100 t101 t102 t103 t104 t105 t106 t107 t108 t109 t110 t111 t112 t113 t114 t115 t116 t117 t118 t119 t120 t121 t122 t123 t124 t125 t126 t127 t128 t129 t130 t131 t132 t133 t134 t135 t136 t137 t138 t139 t140 t141 t142 t143 t144 t145 t146 t147 t148 t149 t150 t151 t152 t153 t154 t155 t156 t157 t158 t159 t160 t161 t162 t163 t164 t165 t166 t167 t168 t169 t170 t171 t172 t173 t174 t175 t176 t177 t178 t179 t180 t181 t182 t183 t184 t185 t186 t187 t188 t189 t190 t191 t192 t193 t194 t195 t196 t197 t198 t199 t200 t201 t202 t203 t204 t205 t206 t207 t208 t209 t210 t211 t212 t213 t214 t215 t216 t217 t218 t219 t220 t221 t222 t223 t224 t225 t226 t227 t228 t229 t230 t231 t232 t233 t234 t235 t236 t237 t238 t239 t240 t241 t242 t243 t244 t245 t246 t247 t248 t249 t250 t251 t252 t253 t254 t255 t256 t257 t258 t259 t260 t261 t262 t263 t264 t265 t266 t267 t268 t269 t270 t271 t272 t273 t274 t275 t276 t277 t278 t279 t280 t281 t282 t283 t284 t285 t286 t287 t288 t289 t290 t291 t292 t293 t294 t295 t296 t297 t298 t299 t300 t301 t302 t303 t304 t305 t306 t307 t308 t309 t310 t311 t312 t313 t314 t315 t316 t317 t318 t319 t320 t321 t322 t323 t324 t325 t326 t327 t328 t329 t330 t331 t332 t333 t334 t335 t336 t337 t338 t339 t340 t341 t342 t343 t344 t345 t346 t347 t348 t349 t350 t351 t352 t353 : Value)
    (hs : s.okL) (hv : v.okL) (hch : 8 ≤ ch) (hcq : 8 ≤ cq) (hne : gh ≠ gq) (hrs : RowU w0 gh s.list) (hrv : RowU w0 gq v.list)
    (hexit : ∀ (w' : World) (u29 u313 u314 u315 u316 u317 u318 u319 u320 u321 u322 u323 u324 u325 u326 u327 u328 : Value), RowU w' gh (s.plusL v).list → w0.grownBy w' (some gh) → Q (.exit 20) ⟨(t0 :: t1 :: t2 :: t3 :: t4 :: t5 :: t6 :: t7 :: t8 :: (.slice (some ⟨gh, 0, none⟩) 8 ch) :: t10 :: t11 :: t12 :: t13 :: t14 :: t15 :: t16 :: t17 :: t18 :: t19 :: (.slice (some ⟨gq, 0, none⟩) 8 cq) :: t21 :: t22 :: t23 :: t24 :: t25 :: t26 :: t27 :: t28 :: u29 :: t30 :: t31 :: t32 :: t33 :: t34 :: t35 :: t36 :: t37 :: t38 :: t39 :: t40 :: t41 :: t42 :: t43 :: t44 :: t45 :: t46 :: t47 :: t48 :: t49 :: t50 :: t51 :: t52 :: t53 :: t54 :: t55 :: t56 :: t57 :: t58 :: t59 :: t60 :: t61 :: t62 :: t63 :: t64 :: t65 :: t66 :: t67 :: t68 :: t69 :: t70 :: t71 :: t72 :: t73 :: t74 :: t75 :: t76 :: t77 :: t78 :: t79 :: t80 :: t81 :: t82 :: t83 :: t84 :: t85 :: t86 :: t87 :: t88 :: t89 :: t90 :: t91 :: t92 :: t93 :: t94 :: t95 :: t96 :: t97 :: t98 :: t99 :: t100 :: t101 :: t102 :: t103 :: t104 :: t105 :: t106 :: t107 :: t108 :: t109 :: t110 :: t111 :: t112 :: t113 :: t114 :: t115 :: t116 :: t117 :: t118 :: t119 :: t120 :: t121 :: t122 :: t123 :: t124 :: t125 :: t126 :: t127 :: t128 :: t129 :: t130 :: t131 :: t132 :: t133 :: t134 :: t135 :: t136 :: t137 :: t138 :: t139 :: t140 :: t141 :: t142 :: t143 :: t144 :: t145 :: t146 :: t147 :: t148 :: t149 :: t150 :: t151 :: t152 :: t153 :: t154 :: t155 :: t156 :: t157 :: t158 :: t159 :: t160 :: t161 :: t162 :: t163 :: t164 :: t165 :: t166 :: t167 :: t168 :: t169 :: t170 :: t171 :: t172 :: t173 :: t174 :: t175 :: t176 :: t177 :: t178 :: t179 :: t180 :: t181 :: t182 :: t183 :: t184 :: t185 :: t186 :: t187 :: t188 :: t189 :: t190 :: t191 :: t192 :: t193 :: t194 :: t195 :: t196 :: t197 :: t198 :: t199 :: t200 :: t201 :: t202 :: t203 :: t204 :: t205 :: t206 :: t207 :: t208 :: t209 :: t210 :: t211 :: t212 :: t213 :: t214 :: t215 :: t216 :: t217 :: t218 :: t219 :: t220 :: t221 :: t222 :: t223 :: t224 :: t225 :: t226 :: t227 :: t228 :: t229 :: t230 :: t231 :: t232 :: t233 :: t234 :: t235 :: t236 :: t237 :: t238 :: t239 :: t240 :: t241 :: t242 :: t243 :: t244 :: t245 :: t246 :: t247 :: t248 :: t249 :: t250 :: t251 :: t252 :: t253 :: t254 :: t255 :: t256 :: t257 :: t258 :: t259 :: t260 :: t261 :: t262 :: t263 :: t264 :: t265 :: t266 :: t267 :: t268 :: t269 :: t270 :: t271 :: t272 :: t273 :: t274 :: t275 :: t276 :: t277 :: t278 :: t279 :: t280 :: t281 :: t282 :: t283 :: t284 :: t285 :: t286 :: t287 :: t288 :: t289 :: t290 :: t291 :: t292 :: t293 :: t294 :: t295 :: t296 :: t297 :: t298 :: t299 :: t300 :: t301 :: t302 :: t303 :: t304 :: t305 :: t306 :: t307 :: t308 :: t309 :: t310 :: t311 :: t312 :: u313 :: u314 :: u315 :: u316 :: u317 :: u318 :: u319 :: u320 :: u321 :: u322 :: u323 :: u324 :: u325 :: u326 :: u327 :: u328 :: t329 :: t330 :: t331 :: t332 :: t333 :: t334 :: t335 :: t336 :: t337 :: t338 :: t339 :: t340 :: t341 :: t342 :: t343 :: t344 :: t345 :: t346 :: t347 :: t348 :: t349 :: t350 :: t351 :: t352 :: t353 :: []).toArray, []⟩ w') :
    Code.wp Tryd.prog (Code.loop (loopN Tryd.f17 10)) Q ⟨(t0 :: t1 :: t2 :: t3 :: t4 :: t5 :: t6 :: t7 :: t8 :: (.slice (some ⟨gh, 0, none⟩) 8 ch) :: t10 :: t11 :: t12 :: t13 :: t14 :: t15 :: t16 :: t17 :: t18 :: t19 :: (.slice (some ⟨gq, 0, none⟩) 8 cq) :: t21 :: t22 :: t23 :: t24 :: t25 :: t26 :: t27 :: t28 :: (.int .i64 0) :: t30 :: t31 :: t32 :: t33 :: t34 :: t35 :: t36 :: t37 :: t38 :: t39 :: t40 :: t41 :: t42 :: t43 :: t44 :: t45 :: t46 :: t47 :: t48 :: t49 :: t50 :: t51 :: t52 :: t53 :: t54 :: t55 :: t56 :: t57 :: t58 :: t59 :: t60 :: t61 :: t62 :: t63 :: t64 :: t65 :: t66 :: t67 :: t68 :: t69 :: t70 :: t71 :: t72 :: t73 :: t74 :: t75 :: t76 :: t77 :: t78 :: t79 :: t80 :: t81 :: t82 :: t83 :: t84 :: t85 :: t86 :: t87 :: t88 :: t89 :: t90 :: t91 :: t92 :: t93 :: t94 :: t95 :: t96 :: t97 :: t98 :: t99 :: t100 :: t101 :: t102 :: t103 :: t104 :: t105 :: t106 :: t107 :: t108 :: t109 :: t110 :: t111 :: t112 :: t113 :: t114 :: t115 :: t116 :: t117 :: t118 :: t119 :: t120 :: t121 :: t122 :: t123 :: t124 :: t125 :: t126 :: t127 :: t128 :: t129 :: t130 :: t131 :: t132 :: t133 :: t134 :: t135 :: t136 :: t137 :: t138 :: t139 :: t140 :: t141 :: t142 :: t143 :: t144 :: t145 :: t146 :: t147 :: t148 :: t149 :: t150 :: t151 :: t152 :: t153 :: t154 :: t155 :: t156 :: t157 :: t158 :: t159 :: t160 :: t161 :: t162 :: t163 :: t164 :: t165 :: t166 :: t167 :: t168 :: t169 :: t170 :: t171 :: t172 :: t173 :: t174 :: t175 :: t176 :: t177 :: t178 :: t179 :: t180 :: t181 :: t182 :: t183 :: t184 :: t185 :: t186 :: t187 :: t188 :: t189 :: t190 :: t191 :: t192 :: t193 :: t194 :: t195 :: t196 :: t197 :: t198 :: t199 :: t200 :: t201 :: t202 :: t203 :: t204 :: t205 :: t206 :: t207 :: t208 :: t209 :: t210 :: t211 :: t212 :: t213 :: t214 :: t215 :: t216 :: t217 :: t218 :: t219 :: t220 :: t221 :: t222 :: t223 :: t224 :: t225 :: t226 :: t227 :: t228 :: t229 :: t230 :: t231 :: t232 :: t233 :: t234 :: t235 :: t236 :: t237 :: t238 :: t239 :: t240 :: t241 :: t242 :: t243 :: t244 :: t245 :: t246 :: t247 :: t248 :: t249 :: t250 :: t251 :: t252 :: t253 :: t254 :: t255 :: t256 :: t257 :: t258 :: t259 :: t260 :: t261 :: t262 :: t263 :: t264 :: t265 :: t266 :: t267 :: t268 :: t269 :: t270 :: t271 :: t272 :: t273 :: t274 :: t275 :: t276 :: t277 :: t278 :: t279 :: t280 :: t281 :: t282 :: t283 :: t284 :: t285 :: t286 :: t287 :: t288 :: t289 :: t290 :: t291 :: t292 :: t293 :: t294 :: t295 :: t296 :: t297 :: t298 :: t299 :: t300 :: t301 :: t302 :: t303 :: t304 :: t305 :: t306 :: t307 :: t308 :: t309 :: t310 :: t311 :: t312 :: t313 :: t314 :: t315 :: t316 :: t317 :: t318 :: t319 :: t320 :: t321 :: t322 :: t323 :: t324 :: t325 :: t326 :: t327 :: t328 :: t329 :: t330 :: t331 :: t332 :: t333 :: t334 :: t335 :: t336 :: t337 :: t338 :: t339 :: t340 :: t341 :: t342 :: t343 :: t344 :: t345 :: t346 :: t347 :: t348 :: t349 :: t350 :: t351 :: t352 :: t353 :: []).toArray, []⟩ w0 := by
  conv => arg 2; arg 1; whnf
  have HS := hid hs; have HV := hid hv; have HRV := hid hrv
  have hrs0 : RowU w0 gh (plusToL s v 0) := by rw [plusToL_zero]; exact hrs
  clear hs hv hrv
  go_loopg [29] 8 (fun g i wr => ∃ n : Nat, n + g = 8 ∧ i = .int .i64 (n : Int) ∧ RowU wr gh (plusToL s v n) ∧ w0.grownBy wr (some gh))
  case atStart => exact ⟨0, rfl, rfl, hrs0, World.grownBy.refl _ _⟩
  case round =>
    clear hrs hrs0
    obtain ⟨n, hn, rfl, hr, hg⟩ := hrel
    obtain ⟨wq, rfl⟩ : ∃ wq : World, wq = wr := ⟨_, rfl⟩
    have HN := hid hn; have HR := hid hr; have HG := hid hg
    have hn8 : n ≤ 8 := by omega
    clear hn hr hg
    by_cases hlt : n < 8
    · have hni : (n : Int) < 8 := by omega
      have hn0 : (0 : Int) ≤ (n : Int) := by omega
      clear hexit
      have hrv := HRV.out.keep (HG.out.block gq HRV.out.lt (by simpa using fun e => hne e.symm))
      obtain ⟨x, hx⟩ : ∃ x, x = s.list.getD n 0 := ⟨_, rfl⟩
      obtain ⟨y, hy⟩ : ∃ y, y = v.list.getD n 0 := ⟨_, rfl⟩
      have hxl : x < 18446744073709551616 := by rw [hx]; exact listL_lt s HS.out n
      have hyl : y < 18446744073709551616 := by rw [hy]; exact listL_lt v HV.out n
      have hcx : wq.cell? ⟨gh, n, none⟩ = some (.int .u64 (x : Int)) := HR.out.cell (by rw [plusToL_get s v n hlt, hx])
      have hcy : wq.cell? ⟨gq, n, none⟩ = some (.int .u64 (y : Int)) := hrv.cell (by rw [hy, List.getD_eq_getElem?_getD, List.getElem?_eq_getElem (by simpa using hlt)]; rfl)
      have hfz := HR.out.frz n
      obtain ⟨r, hr⟩ : ∃ r, r = (x + y) % 18446744073709551616 := ⟨_, rfl⟩
      have f1 : IntKind.u64.wrap ((x : Int) + (y : Int)) = (r : Int) := addL_u64 _ _ _ hr
      have hnext : (plusToL s v n).set n r = plusToL s v (n + 1) := plusToL_next s v n r hlt (by rw [hr, hx, hy])
      have HNEXT := hid hnext
      have hset := HR.out.set n r (by rw [plusToL_length s v n hn8]; exact hlt)
      rw [hnext] at hset
      clear hx hy hr hnext hrv hset hxl hyl
      go_wp2
      refine wp_region_quiet_tail 12 (by kernel_rfl) (by kernel_rfl) ?_
      simp only [List.take_succ_cons, List.take_zero, List.drop_succ_cons, List.drop_zero]
      repeat (quiet_step (fail))
      refine wpQuiet_nil ?_
      rintro _ ⟨ne, rfl⟩
      go_wp2
      have hn := HN.out
      go_roundg (8 - n - 1)
      case measure => omega
      case rel =>
        refine ⟨n + 1, by omega, by go_num, ?_, ?_⟩
        · rw [← HNEXT.out]
          exact RowU.set (w := wq.drewN ne) (HR.out.keep rfl) n r (by rw [plusToL_length s v n hn8]; exact hlt)
        · have hgd : w0.grownBy (wq.drewN ne) (some gh) := ⟨HG.out.os, HG.out.tape, HG.out.output, HG.out.size, HG.out.block⟩
          exact grown_step hgd (.inl rfl) (grown_setCell _ _ _ _ _)
    · obtain rfl : n = 8 := by omega
      have hni : ¬ ((8 : Nat) : Int) < 8 := by omega
      have hr8 := HR.out
      rw [plusToL_end] at hr8
      have HR8 := hid hr8
      clear hr8 HR
      go_wp2
      exact hexit wq _ _ _ _ _ _ _ _ _ _ _ _ _ _ _ _ _ HR8.out HG.out
end Go.Proofs.YtokggppfobbblaaDoor
