/-
  The document's own digest: the bytes told.
-/
import Derived.Test.YtokggppfobbblaaDoorRef02e
namespace Go.Proofs.YtokggppfobbblaaDoor
open Go.RowKit
set_option linter.unusedVariables false
set_option linter.unusedSimpArgs false

set_option maxRecDepth 100000 in
set_option maxHeartbeats 4000000 in
theorem out_loop {Q : Exit → Act → World → Prop} (gh ch : Nat) (s : St) (w0 : World) (t0 t1 t2 t3 t4 t5 t6 t8 t9 t10 t11 t12 t13 t14 t15 t16 t17 t18 t19 t20 t21 t22 t23 t24 t25 t26 t27 t28 t31 t32 t33 t34 t35 t36 t37 t38 t39 t40 t41 t42 t43 t44 t45 t46 t47 t48 t49 t50 t51 t52 t53 t54 t55 t56 t57 t58 t59 t60 t61 t62 t63 t64 t65 t66 t67 t68 t69 t70 t71 t72 t73 t74 t75 t76 t77 t78 t79 t80 t81 t82 t83 t84 t85 t86 t87 t88 t89 t90 t91 t92 t93 t94 t95 t96 t97 t98 t99 t100 t101 t102 t103 t104 t105 t106 t107 t108 t109 t110 t111 t112 t113 t114 t115 t116 t117 t118 t119 t120 t121 t122 t123 t124 t125 t126 t127 t128 t129 t130 t131 t132 t133 t134 t135 t136 t137 t138 t139 t140 t141 t142 t143 t144 t145 t146 t147 t148 t149 t150 t151 t152 t153 t154 t155 t156 t157 t158 t159 t160 t161 t162 t163 t164 t165 t166 t167 t168 t169 t170 t171 t172 t173 t174 t175 t176 t177 t178 t179 t180 t181 t182 t183 t184 t185 t186 t187 t188 t189 t190 t191 t192 t193 t194 t195 t196 t197 t198 t199 t200 t201 t202 t203 t204 t205 t206 t207 t208 t209 t210 t211 t212 t213 t214 t215 t216 t217 t218 t219 t220 t221 t222 t223 t224 t225 t226 t227 t228 t229 t230 t231 t232 t233 t234 t235 t236 t237 t238 t239 t240 t241 t242 t243 t244 t245 t246 t247 t248 t249 t250 t251 t252 t253 t254 t255 t256 t257 t258 t259 t260 t261 t262 t263 t264 t265 t266 t267 t268 t269 t270 t271 t272 t273 t274 t275 t276 t277 t278 t279 t280 t281 t282 t283 t284 t285 t286 t287 t288 t289 t290 t291 t292 t293 t294 t295 t296 t297 t298 t299 t300 t301 t302 t303 t304 t305 t306 t307 t308 t309 t310 t311 t312 t313 t314 t315 t316 t317 t318 t319 t320 t321 t322 t323 t324 t325 t326 t327 t328 t329 t330 t331 t332 t333 t334 t335 t336 t337 t338 t339 t340 t341 t342 t343 t344 t345 t346 t347 t348 t349 t350 t351 : Value)
    (hpan : ∀ c (a : Act) (k : Tmp) (x : Value) (w : World), Q (.panic c) (a.put (some k) x) w → Q (.panic c) a w) (hs : s.ok) (hch : 8 ≤ ch) (hrs : RowU w0 gh s.list)
    (hexit : ∀ (v : Value) (w' : World) (u30 u318 u319 u320 u321 u322 u323 u324 u325 u326 u327 u328 u329 u330 u331 u332 u333 u334 u335 u336 u337 u338 u339 u340 u341 u342 u343 u344 u345 u346 u347 u348 u349 u350 : Value), OwnB w' w0.heap.size v s.bytes → Below w0.heap.size w0 w' → Q (.exit 18) ⟨(t0 :: t1 :: t2 :: t3 :: t4 :: t5 :: t6 :: (.slice (some ⟨gh, 0, none⟩) 8 ch) :: t8 :: t9 :: t10 :: t11 :: t12 :: t13 :: t14 :: t15 :: t16 :: t17 :: t18 :: t19 :: t20 :: t21 :: t22 :: t23 :: t24 :: t25 :: t26 :: t27 :: t28 :: v :: u30 :: t31 :: t32 :: t33 :: t34 :: t35 :: t36 :: t37 :: t38 :: t39 :: t40 :: t41 :: t42 :: t43 :: t44 :: t45 :: t46 :: t47 :: t48 :: t49 :: t50 :: t51 :: t52 :: t53 :: t54 :: t55 :: t56 :: t57 :: t58 :: t59 :: t60 :: t61 :: t62 :: t63 :: t64 :: t65 :: t66 :: t67 :: t68 :: t69 :: t70 :: t71 :: t72 :: t73 :: t74 :: t75 :: t76 :: t77 :: t78 :: t79 :: t80 :: t81 :: t82 :: t83 :: t84 :: t85 :: t86 :: t87 :: t88 :: t89 :: t90 :: t91 :: t92 :: t93 :: t94 :: t95 :: t96 :: t97 :: t98 :: t99 :: t100 :: t101 :: t102 :: t103 :: t104 :: t105 :: t106 :: t107 :: t108 :: t109 :: t110 :: t111 :: t112 :: t113 :: t114 :: t115 :: t116 :: t117 :: t118 :: t119 :: t120 :: t121 :: t122 :: t123 :: t124 :: t125 :: t126 :: t127 :: t128 :: t129 :: t130 :: t131 :: t132 :: t133 :: t134 :: t135 :: t136 :: t137 :: t138 :: t139 :: t140 :: t141 :: t142 :: t143 :: t144 :: t145 :: t146 :: t147 :: t148 :: t149 :: t150 :: t151 :: t152 :: t153 :: t154 :: t155 :: t156 :: t157 :: t158 :: t159 :: t160 :: t161 :: t162 :: t163 :: t164 :: t165 :: t166 :: t167 :: t168 :: t169 :: t170 :: t171 :: t172 :: t173 :: t174 :: t175 :: t176 :: t177 :: t178 :: t179 :: t180 :: t181 :: t182 :: t183 :: t184 :: t185 :: t186 :: t187 :: t188 :: t189 :: t190 :: t191 :: t192 :: t193 :: t194 :: t195 :: t196 :: t197 :: t198 :: t199 :: t200 :: t201 :: t202 :: t203 :: t204 :: t205 :: t206 :: t207 :: t208 :: t209 :: t210 :: t211 :: t212 :: t213 :: t214 :: t215 :: t216 :: t217 :: t218 :: t219 :: t220 :: t221 :: t222 :: t223 :: t224 :: t225 :: t226 :: t227 :: t228 :: t229 :: t230 :: t231 :: t232 :: t233 :: t234 :: t235 :: t236 :: t237 :: t238 :: t239 :: t240 :: t241 :: t242 :: t243 :: t244 :: t245 :: t246 :: t247 :: t248 :: t249 :: t250 :: t251 :: t252 :: t253 :: t254 :: t255 :: t256 :: t257 :: t258 :: t259 :: t260 :: t261 :: t262 :: t263 :: t264 :: t265 :: t266 :: t267 :: t268 :: t269 :: t270 :: t271 :: t272 :: t273 :: t274 :: t275 :: t276 :: t277 :: t278 :: t279 :: t280 :: t281 :: t282 :: t283 :: t284 :: t285 :: t286 :: t287 :: t288 :: t289 :: t290 :: t291 :: t292 :: t293 :: t294 :: t295 :: t296 :: t297 :: t298 :: t299 :: t300 :: t301 :: t302 :: t303 :: t304 :: t305 :: t306 :: t307 :: t308 :: t309 :: t310 :: t311 :: t312 :: t313 :: t314 :: t315 :: t316 :: t317 :: u318 :: u319 :: u320 :: u321 :: u322 :: u323 :: u324 :: u325 :: u326 :: u327 :: u328 :: u329 :: u330 :: u331 :: u332 :: u333 :: u334 :: u335 :: u336 :: u337 :: u338 :: u339 :: u340 :: u341 :: u342 :: u343 :: u344 :: u345 :: u346 :: u347 :: u348 :: u349 :: u350 :: t351 :: []).toArray, []⟩ w') :
    Code.wp Tryd.prog (Code.loop (loopN Tryd.f27 9)) Q ⟨(t0 :: t1 :: t2 :: t3 :: t4 :: t5 :: t6 :: (.slice (some ⟨gh, 0, none⟩) 8 ch) :: t8 :: t9 :: t10 :: t11 :: t12 :: t13 :: t14 :: t15 :: t16 :: t17 :: t18 :: t19 :: t20 :: t21 :: t22 :: t23 :: t24 :: t25 :: t26 :: t27 :: t28 :: (.slice none 0 0) :: (.int .i64 0) :: t31 :: t32 :: t33 :: t34 :: t35 :: t36 :: t37 :: t38 :: t39 :: t40 :: t41 :: t42 :: t43 :: t44 :: t45 :: t46 :: t47 :: t48 :: t49 :: t50 :: t51 :: t52 :: t53 :: t54 :: t55 :: t56 :: t57 :: t58 :: t59 :: t60 :: t61 :: t62 :: t63 :: t64 :: t65 :: t66 :: t67 :: t68 :: t69 :: t70 :: t71 :: t72 :: t73 :: t74 :: t75 :: t76 :: t77 :: t78 :: t79 :: t80 :: t81 :: t82 :: t83 :: t84 :: t85 :: t86 :: t87 :: t88 :: t89 :: t90 :: t91 :: t92 :: t93 :: t94 :: t95 :: t96 :: t97 :: t98 :: t99 :: t100 :: t101 :: t102 :: t103 :: t104 :: t105 :: t106 :: t107 :: t108 :: t109 :: t110 :: t111 :: t112 :: t113 :: t114 :: t115 :: t116 :: t117 :: t118 :: t119 :: t120 :: t121 :: t122 :: t123 :: t124 :: t125 :: t126 :: t127 :: t128 :: t129 :: t130 :: t131 :: t132 :: t133 :: t134 :: t135 :: t136 :: t137 :: t138 :: t139 :: t140 :: t141 :: t142 :: t143 :: t144 :: t145 :: t146 :: t147 :: t148 :: t149 :: t150 :: t151 :: t152 :: t153 :: t154 :: t155 :: t156 :: t157 :: t158 :: t159 :: t160 :: t161 :: t162 :: t163 :: t164 :: t165 :: t166 :: t167 :: t168 :: t169 :: t170 :: t171 :: t172 :: t173 :: t174 :: t175 :: t176 :: t177 :: t178 :: t179 :: t180 :: t181 :: t182 :: t183 :: t184 :: t185 :: t186 :: t187 :: t188 :: t189 :: t190 :: t191 :: t192 :: t193 :: t194 :: t195 :: t196 :: t197 :: t198 :: t199 :: t200 :: t201 :: t202 :: t203 :: t204 :: t205 :: t206 :: t207 :: t208 :: t209 :: t210 :: t211 :: t212 :: t213 :: t214 :: t215 :: t216 :: t217 :: t218 :: t219 :: t220 :: t221 :: t222 :: t223 :: t224 :: t225 :: t226 :: t227 :: t228 :: t229 :: t230 :: t231 :: t232 :: t233 :: t234 :: t235 :: t236 :: t237 :: t238 :: t239 :: t240 :: t241 :: t242 :: t243 :: t244 :: t245 :: t246 :: t247 :: t248 :: t249 :: t250 :: t251 :: t252 :: t253 :: t254 :: t255 :: t256 :: t257 :: t258 :: t259 :: t260 :: t261 :: t262 :: t263 :: t264 :: t265 :: t266 :: t267 :: t268 :: t269 :: t270 :: t271 :: t272 :: t273 :: t274 :: t275 :: t276 :: t277 :: t278 :: t279 :: t280 :: t281 :: t282 :: t283 :: t284 :: t285 :: t286 :: t287 :: t288 :: t289 :: t290 :: t291 :: t292 :: t293 :: t294 :: t295 :: t296 :: t297 :: t298 :: t299 :: t300 :: t301 :: t302 :: t303 :: t304 :: t305 :: t306 :: t307 :: t308 :: t309 :: t310 :: t311 :: t312 :: t313 :: t314 :: t315 :: t316 :: t317 :: t318 :: t319 :: t320 :: t321 :: t322 :: t323 :: t324 :: t325 :: t326 :: t327 :: t328 :: t329 :: t330 :: t331 :: t332 :: t333 :: t334 :: t335 :: t336 :: t337 :: t338 :: t339 :: t340 :: t341 :: t342 :: t343 :: t344 :: t345 :: t346 :: t347 :: t348 :: t349 :: t350 :: t351 :: []).toArray, []⟩ w0 := by
  conv => arg 2; arg 1; whnf
  have HS := hid hs; have HRS := hid hrs
  clear hs hrs
  go_loopg [29, 30] 8 (fun g v i wr => ∃ n : Nat, n + g = 8 ∧ i = .int .i64 (n : Int) ∧ OwnB wr w0.heap.size v (s.bytesTo n) ∧ Below w0.heap.size w0 wr)
  case atStart => exact ⟨0, rfl, rfl, ⟨rfl, .inl ⟨rfl, rfl⟩⟩, Below.refl _ _⟩
  case round =>
    obtain ⟨n, hn, rfl, ho, hb⟩ := hrel
    obtain ⟨wq, rfl⟩ : ∃ wq : World, wq = wr := ⟨_, rfl⟩
    have hn8 : n ≤ 8 := by omega
    obtain ⟨zs, hzs⟩ : ∃ zs, zs = s.bytesTo n := ⟨_, rfl⟩
    rw [← hzs] at ho
    have hzl : zs.length = 4 * n := by rw [hzs]; exact St.bytesTo_length s n hn8
    have HN := hid hn; have HB := hid hb; have HZS := hid hzs; have HZL := hid hzl; have HO := hid ho
    clear hn hb hzs hzl ho
    by_cases hlt : n < 8
    · have hni : (n : Int) < 8 := by omega
      have hn0 : (0 : Int) ≤ (n : Int) := by omega
      clear hexit
      obtain ⟨A5, c5, rfl, hS5⟩ := own_sl HO.out
      have hrv := HRS.out.keep (HB.out.block gh HRS.out.lt)
      obtain ⟨x, hx⟩ : ∃ x, x = s.list.getD n 0 := ⟨_, rfl⟩
      have hxl : x < 4294967296 := by rw [hx]; exact list_lt s HS.out n
      have hxg : s.list[n]? = some x := by rw [hx, List.getD_eq_getElem?_getD, List.getElem?_eq_getElem (by simpa using hlt)]; rfl
      have hcx : wq.cell? ⟨gh, n, none⟩ = some (.int .u64 (x : Int)) := hrv.cell hxg
      have HXG := hid hxg; have HZ5 : Hid (zs.length ≤ 28) := hid (by rw [HZL.out]; omega)
      obtain ⟨y0, hy0⟩ : ∃ y, y = x / 16777216 := ⟨_, rfl⟩
      obtain ⟨y1, hy1⟩ : ∃ y, y = x / 65536 := ⟨_, rfl⟩
      obtain ⟨y2, hy2⟩ : ∃ y, y = x / 256 := ⟨_, rfl⟩
      obtain ⟨b1, hb1⟩ : ∃ b, b = y1 % 256 := ⟨_, rfl⟩
      obtain ⟨b2, hb2⟩ : ∃ b, b = y2 % 256 := ⟨_, rfl⟩
      obtain ⟨b3, hb3⟩ : ∃ b, b = x % 256 := ⟨_, rfl⟩
      have g0 : IntKind.u64.wrap ((x : Int) / 16777216) = (y0 : Int) := by rw [IntKind.wrap_u64]; omega
      have g1 : IntKind.u64.wrap ((x : Int) / 65536) = (y1 : Int) := by rw [IntKind.wrap_u64]; omega
      have g2 : IntKind.u64.wrap ((x : Int) / 256) = (y2 : Int) := by rw [IntKind.wrap_u64]; omega
      have g3 : (y0 : Int) % 256 = (y0 : Int) := by omega
      have g4 : Int.tmod (y1 : Int) 256 = (b1 : Int) := by rw [hb1]; exact (Int.ofNat_tmod y1 256).symm
      have g5 : Int.tmod (y2 : Int) 256 = (b2 : Int) := by rw [hb2]; exact (Int.ofNat_tmod y2 256).symm
      have g6 : Int.tmod (x : Int) 256 = (b3 : Int) := by rw [hb3]; exact (Int.ofNat_tmod x 256).symm
      have g7 : (x : Int) % 256 = (b3 : Int) := by omega
      have g8 : (b1 : Int) % 256 = (b1 : Int) := by omega
      have g9 : (b2 : Int) % 256 = (b2 : Int) := by omega
      have ga : (b3 : Int) % 256 = (b3 : Int) := by omega
      have hcs : [Value.int .u8 (y0 : Int), .int .u8 (b1 : Int), .int .u8 (b2 : Int), .int .u8 (b3 : Int)] = bvs (word32 x) := by
        simp only [bvs, word32, List.map_cons, List.map_nil, UInt8.toNat_ofNat']
        rw [← hy0, ← hy1, ← hy2, hb1, hb2, hb3, Nat.mod_eq_of_lt (show y0 < 2 ^ 8 by omega)]
      have HCS := hid hcs
      clear hx hrv hxg hS5 hy0 hy1 hy2 hb1 hb2 hb3 hcs
      go_wp2
      refine wp_region_first_tail (.slice A5 zs.length c5) 27 (by kernel_rfl) rfl (by kernel_rfl) (fun c a w h => hpan c a _ _ w h) (Or.inl ⟨by rfl, fun _ => rfl⟩) ?_
      simp only [List.drop_succ_cons, List.drop_zero, List.take_succ_cons, List.take_zero]
      go_simp
      repeat (quiet_step (fail))
      refine wpQuiet_nil ?_
      intro ne
      obtain ⟨we, hwe⟩ : ∃ we : World, we = wq.drewN ne := ⟨_, rfl⟩
      have hBE : Below w0.heap.size w0 we := by rw [hwe]; exact below_drewN HB.out ne
      have hOE : OwnB we w0.heap.size (.slice A5 zs.length c5) zs := by rw [hwe]; exact HO.out
      rw [← hwe]
      clear g0 g1 g2 g4 g5 g6 g7
      have HO2 := hid (World.ownsRow.alloc hOE (.cells #[.int .u8 (y0 : Int), .int .u8 (b1 : Int), .int .u8 (b2 : Int), .int .u8 (b3 : Int)] 5))
      have HL2 := hid (Lie.newA we #[.int .u8 (y0 : Int), .int .u8 (b1 : Int), .int .u8 (b2 : Int), .int .u8 (b3 : Int)] 5)
      have HBE := hid hBE
      have hzb : zs.length ≤ 28 := HZ5.out
      clear hwe hBE hOE hcx hxl HO HB
      go_wp2_with (at_builtin; go_loud (refine wpList_append_lie rfl (.tmp 322) (.tmp 349) 22 rfl w0.heap.size 5 (.int .u8 0) 1 Tryd.underlying22 infoU8 rfl rfl HO2.out rfl rfl HL2.out ?l0 ?l1 ?l2 ?l3 ?_))
      case l0 => first | exact ⟨rfl, rfl, rfl, rfl⟩ | (intro u hu; simp at hu; rcases hu with rfl | rfl | rfl | rfl <;> rfl)
      case l1 => first | (unfold maxLen; simp; omega) | (simp; omega) | omega
      case l2 => first | omega | (simp; omega)
      case l3 => (have := HBE.out.size; simp; omega)
      intro v5 w5 hown5 hg5 _
      have hO5 : OwnB w5 w0.heap.size v5 (s.bytesTo (n + 1)) := by
        rw [St.bytesTo_succ s n x HXG.out, ← HZS.out]
        have h := hown5
        rw [HCS.out, ← bvs_append] at h
        unfold OwnB
        rw [List.length_append]
        exact h
      have hB5 : Below w0.heap.size w0 w5 := (HBE.out.alloc HBE.out.size _).grown hg5 (by have := HBE.out.size; simp; omega) (fun q h => own_lt HO2.out q h)
      have HO5 := hid hO5; have HB5 := hid hB5
      clear hown5 hg5 hO5 hB5 HO2 HL2
      go_wp2
      have hn := HN.out
      go_roundg (8 - n - 1)
      case measure => omega
      case rel => exact ⟨n + 1, by omega, by go_num, HO5.out, HB5.out⟩
    · obtain rfl : n = 8 := by omega
      have hni : ¬ ((8 : Nat) : Int) < 8 := by omega
      have hbe : zs = s.bytes := by rw [HZS.out]; rfl
      subst hbe
      clear HZS HZL
      go_wp2
      exact hexit _ wq _ _ _ _ _ _ _ _ _ _ _ _ _ _ _ _ _ _ _ _ _ _ _ _ _ _ _ _ _ _ _ _ _ _ HO.out HB.out
end Go.Proofs.YtokggppfobbblaaDoor
