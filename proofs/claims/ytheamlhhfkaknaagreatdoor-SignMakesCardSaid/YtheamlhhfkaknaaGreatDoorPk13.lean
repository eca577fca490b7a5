/-
  Texts of this claim in one file: LonU.
-/
import Derived.Test.YtheamlhhfkaknaaGreatDoorPk4
import Derived.Test.YtheamlhhfkaknaaGreatDoorPk6
import Derived.Test.YtheamlhhfkaknaaGreatDoorPk10
import Derived.Test.YtheamlhhfkaknaaGreatDoorPk11
import Derived.Test.YtheamlhhfkaknaaGreatDoorPk2
import Derived.Test.YtheamlhhfkaknaaGreatDoorPk12
section
namespace Go.Proofs.YtheamlhhfkaknaaGreatDoor
set_option linter.unusedVariables false
set_option linter.unusedSimpArgs false
/-- The primes below p. -/
def prs : Nat → List Nat
  | 0 => []
  | p + 1 => if 2 ≤ p ∧ (prs p).all (fun q => p % q != 0) = true then prs p ++ [p] else prs p
theorem prs_prefix (p d : Nat) : ∃ t, prs (p + d) = prs p ++ t := by
  induction d with
  | zero => exact ⟨[], by simp⟩
  | succ d ih =>
    obtain ⟨t, ht⟩ := ih
    rw [show p + (d + 1) = (p + d) + 1 by omega, prs]
    split
    · exact ⟨t ++ [p + d], by rw [ht, List.append_assoc]⟩
    · exact ⟨t, ht⟩
theorem prs_lt (p : Nat) : ∀ x ∈ prs p, 2 ≤ x ∧ x < p := by
  induction p with
  | zero => intro x hx; cases hx
  | succ p ih =>
    intro x hx
    rw [prs] at hx
    split at hx
    · rcases List.mem_append.1 hx with hx | hx
      · have := ih x hx; omega
      · rw [List.mem_singleton] at hx; omega
    · have := ih x hx; omega
theorem prs_410 : (prs 410).length = 80 := by decide +kernel
/-- Where there are n of them, they are the first n. -/
theorem prs_take (p n : Nat) (h : (prs p).length = n) (hp : p ≤ 410) : prs p = (prs 410).take n := by
  obtain ⟨t, ht⟩ := prs_prefix p (410 - p)
  rw [show p + (410 - p) = 410 by omega] at ht
  rw [ht, ← h, List.take_left]
theorem prs_le (p : Nat) (hp : p ≤ 410) : (prs p).length ≤ 80 := by
  obtain ⟨t, ht⟩ := prs_prefix p (410 - p)
  rw [show p + (410 - p) = 410 by omega] at ht
  have := prs_410
  rw [ht, List.length_append] at this
  omega
end Go.Proofs.YtheamlhhfkaknaaGreatDoor
namespace Go.Proofs.YtheamlhhfkaknaaGreatDoor
open Go.RowKit
set_option linter.unusedVariables false
set_option linter.unusedSimpArgs false
set_option maxRecDepth 100000 in
set_option maxHeartbeats 3200000 in
theorem Primes_any (n : Nat) (w : World) (hn : n ≤ 80) :
    Calls Tryz.prog 59 #[.int .i64 (n : Int)] w fun e w' => ∃ v, e = .returned v ∧ OwnU w' w.heap.size v ((prs 410).take n) ∧ Below w.heap.size w w' := by
  go_enter Tryz.func59, Tryz.ntmps59
  go_wp2
  go_loopg [3, 4] 408 (fun g v i wr => ∃ p : Nat, p + g = 410 ∧ 2 ≤ p ∧ i = .int .u64 (p : Int) ∧ OwnU wr w.heap.size v (prs p) ∧ (prs p).length ≤ n ∧ Below w.heap.size w wr)
  case atStart => exact ⟨2, rfl, by omega, rfl, by rw [show prs 2 = [] by decide]; exact ownu_nil _ _, by rw [show prs 2 = [] by decide]; exact Nat.zero_le _, Below.refl _ _⟩
  case round =>
    obtain ⟨p, hp, hp2, rfl, ho, hl, hb⟩ := hrel
    obtain ⟨wq, rfl⟩ : ∃ wq : World, wq = wr := ⟨_, rfl⟩
    have hp410 : p ≤ 410 := by omega
    obtain ⟨xs, hxs⟩ : ∃ xs, xs = prs p := ⟨_, rfl⟩
    rw [← hxs] at ho hl
    have hx2 : ∀ x ∈ xs, 2 ≤ x ∧ x < p := by rw [hxs]; exact prs_lt p
    have h80 : xs.length ≤ 80 := by rw [hxs]; exact prs_le p hp410
    have htk : xs.length = n → xs = (prs 410).take n := fun h => by rw [hxs] at h ⊢; exact prs_take p n h hp410
    have hlast : xs.length < n → p < 410 := fun h => by
      rcases Nat.lt_or_ge p 410 with h2 | h2
      · exact h2
      · obtain rfl : p = 410 := by omega
        rw [hxs, prs_410] at h; omega
    have hnext : prs (p + 1) = if xs.all (fun q => p % q != 0) = true then xs ++ [p] else xs := by
      rw [prs, ← hxs]
      by_cases hall : xs.all (fun q => p % q != 0) = true
      · rw [if_pos ⟨hp2, hall⟩, if_pos hall]
      · rw [if_neg (fun h => hall h.2), if_neg hall]
    obtain ⟨A3, c3, rfl, hS3⟩ := own_sl ho
    have HP := hid hp; have HXS := hid hxs; have HX2 := hid hx2; have HTK := hid htk; have HLAST := hid hlast; have HNEXT := hid hnext; have HO := hid ho; have HL := hid hl; have HB := hid hb; have HS3 := hid hS3.sq
    clear hp hxs hx2 htk hlast hnext ho hl hb hS3
    by_cases hlt : xs.length < n
    · have hli : (xs.length : Int) < (n : Int) := by omega
      go_wp2
      go_loopg [5, 6] xs.length (fun g b i wr => ∃ j : Nat, j + g = xs.length ∧ i = .int .i64 (j : Int) ∧ b = .bool ((xs.take j).all (fun q => p % q != 0)) ∧ wr = wq)
      case atStart => exact ⟨0, by omega, rfl, rfl, rfl⟩
      case round =>
        obtain ⟨j, hj, rfl, rfl, rfl⟩ := hrel
        have HJ := hid hj
        clear hj
        obtain ⟨bb, hbb⟩ : ∃ bb, bb = (xs.take j).all (fun q => p % q != 0) := ⟨_, rfl⟩
        rw [← hbb]
        by_cases hjl : j < xs.length
        · have hji : (j : Int) < (xs.length : Int) := by omega
          have hj0 : (0 : Int) ≤ (j : Int) := by omega
          obtain ⟨b3, o3, rfl, hb3, hc3⟩ := uvs_get HS3.out hjl
          obtain ⟨x, hx⟩ : ∃ x, x = xs.getD j 0 := ⟨_, rfl⟩
          rw [← hx] at hc3
          have hxm : xs[j] = x := by rw [hx, List.getD_eq_getElem?_getD, List.getElem?_eq_getElem hjl]; rfl
          have hx2 := HX2.out x (by rw [← hxm]; exact List.getElem_mem hjl)
          have hnx : (xs.take (j + 1)).all (fun q => p % q != 0) = (bb && (p % x != 0)) := by
            rw [List.take_succ_eq_append_getElem hjl, List.all_append, ← hbb, hxm]; simp
          have HNX := hid hnx
          obtain ⟨r, hr⟩ : ∃ r, r = p % x := ⟨_, rfl⟩
          rw [← hr] at hnx
          have hrt : Int.tmod (p : Int) (x : Int) = (r : Int) := by rw [hr]; exact (Int.ofNat_tmod p x).symm
          have hx0 : ¬ (x : Int) = 0 := by omega
          have hx1 : (1 : Int) ≤ (x : Int) := by omega
          have HNX2 := hid hnx
          clear hx hxm hbb hnx HNX hr hx2
          rcases bb with _ | _
          · go_wp2
            have hj := HJ.out
            go_roundg (xs.length - j - 1)
            case measure => omega
            case rel => exact ⟨j + 1, by omega, by go_num, by rw [HNX2.out]; rfl, rfl⟩
          · by_cases hr0 : r = 0
            · have hne : ((r : Int) != 0) = false := by rw [bne_eq_false_iff_eq]; omega
              have HR0 := hid hr0
              clear hr0
              go_wp2
              have hj := HJ.out
              go_roundg (xs.length - j - 1)
              case measure => omega
              case rel => exact ⟨j + 1, by omega, by go_num, by rw [HNX2.out, HR0.out]; rfl, rfl⟩
            · have hne : ((r : Int) != 0) = true := by rw [bne_iff_ne]; omega
              have hne2 : (r != 0) = true := by rw [bne_iff_ne]; exact hr0
              have HR0 := hid hne2
              clear hr0 hne2
              go_wp2
              have hj := HJ.out
              go_roundg (xs.length - j - 1)
              case measure => omega
              case rel => exact ⟨j + 1, by omega, by go_num, by rw [HNX2.out, HR0.out]; rfl, rfl⟩
        · obtain rfl : j = xs.length := by have := HJ.out; omega
          have hji : ¬ (xs.length : Int) < (xs.length : Int) := by omega
          rw [List.take_length] at hbb
          have HBB := hid hbb
          have hnx := HNEXT.out
          rw [← hbb] at hnx
          have HNX := hid hnx
          have hpw : IntKind.u64.wrap ((p : Int) + 1) = (p : Int) + 1 := by rw [IntKind.wrap_u64]; omega
          clear hbb hnx HJ
          rcases bb with _ | _
          · have hn1 := HNX.out
            rw [if_neg (by decide)] at hn1
            have HN1 := hid hn1
            clear hn1
            go_wp2
            have hp := HP.out
            have hl2 := HLAST.out hlt
            go_roundg (410 - p - 1)
            case measure => omega
            case rel => exact ⟨p + 1, by omega, by omega, by go_num, by rw [HN1.out]; exact HO.out, by rw [HN1.out]; omega, HB.out⟩
          · have hn1 := HNX.out
            rw [if_pos rfl] at hn1
            have HN1 := hid hn1
            clear hn1
            have HO2 := hid (World.ownsRow.alloc HO.out (.cells #[.int .u64 (p : Int)] 28))
            go_wp2_with (at_builtin; refine wpList_append_lie rfl (.tmp 30) (.tmp 32) 80 rfl w.heap.size 28 (.int .u64 0) 8 Tryz.underlying80 infoU64 rfl rfl HO2.out rfl rfl (Lie.new1 _ _ _) (by intro u hu; simp at hu; subst hu; rfl) (by rw [List.length_singleton]; unfold maxLen; omega) (by rw [List.length_singleton]; omega) (by have := HB.out.size; simp; omega) ?_)
            intro v5 w5 hown5 hg5 _
            have hO5 : OwnU w5 w.heap.size v5 (prs (p + 1)) := by rw [HN1.out]; exact ownu_snoc hown5 rfl rfl
            have hB5 : Below w.heap.size w w5 := (HB.out.alloc HB.out.size _).grown hg5 (by have := HB.out.size; simp; omega) (fun q h => own_lt HO2.out q h)
            have HO5 := hid hO5; have HB5 := hid hB5
            clear hown5 hg5 hO5 hB5 HO2
            go_wp2
            have hp := HP.out
            have hl2 := HLAST.out hlt
            go_roundg (410 - p - 1)
            case measure => omega
            case rel => exact ⟨p + 1, by omega, by omega, by go_num, HO5.out, by rw [HN1.out, List.length_append, List.length_singleton]; omega, HB5.out⟩
    · have hln : xs.length = n := by have := HL.out; omega
      have hli : ¬ (xs.length : Int) < (n : Int) := by omega
      have HF := hid (HTK.out hln)
      clear hln
      go_wp2
      go_ret
      exact ⟨_, rfl, by rw [← HF.out]; exact HO.out, HB.out⟩
end Go.Proofs.YtheamlhhfkaknaaGreatDoor
namespace Go.Proofs.YtheamlhhfkaknaaGreatDoor
open Go.RowKit
set_option linter.unusedVariables false
set_option linter.unusedSimpArgs false
/-- The k-th root's first 64 bits behind the point. -/
def rt64 (k p : Nat) : Nat := rbits (p * 2 ^ (64 * k)) k 0 70 % 18446744073709551616
theorem rootsL_iv : ((prs 410).take 8).map (rt64 2) = ivL.list := by decide +kernel
theorem rootsL_k : ((prs 410).take 80).map (rt64 3) = kTabL := by decide +kernel
set_option maxRecDepth 100000 in
set_option maxHeartbeats 3200000 in
theorem hs3_loop {Q : Exit → Act → World → Prop} (AP : Option Addr) (cP : Nat) (PR : List Nat) (w0 : World) (t0 t1 t2 t3 t4 t5 t6 t7 t10 t12 t13 t14 t15 t16 t17 t18 t19 t20 t21 t22 t23 t24 t25 t26 t27 t28 t29 t30 t31 t32 t33 t34 t35 t36 t37 t38 t39 t40 t41 t42 t43 t44 t45 t46 t47 t48 t49 t50 t51 t52 t53 t54 t55 t56 t57 t58 t59 t60 t61 t62 t63 t64 t65 t66 t67 t68 t69 t70 t71 t72 t73 t74 t75 t76 t77 t78 t79 t80 t81 t82 t83 t84 t85 t86 t87 t88 t89 t90 t91 t92 t93 t94 t95 t96 t97 t98 t99 t100 t101 t102 t103 t104 t105 t106 t107 t108 t109 t110 t111 t112 t113 t114 t115 t116 t117 t118 t119 t120 t121 t122 t123 t124 t125 t126 t127 t128 t129 t130 t131 t132 t133 t134 t135 t136 t137 t138 t139 t140 t141 t142 t143 t144 t145 t146 t147 t148 t149 t150 t151 t152 t153 t154 t155 t156 t157 t158 t159 t160 t161 t162 t163 t164 t165 t166 t167 t168 t169 t170 t171 t172 t173 t174 t175 t176 t177 t178 t179 t180 t181 t182 t183 t184 t185 t186 t187 t188 t189 t190 t191 t192 t193 t194 t195 t196 t197 t198 t199 t200 t201 t202 t203 t204 t205 t206 t207 t208 t209 t210 t211 t212 t213 t214 t215 t216 t217 t218 t219 t220 t221 t222 t223 t224 t225 t226 t227 t228 t229 t230 t231 t232 t233 t234 t235 t236 t237 t238 t239 t240 t241 t242 t243 t244 t245 t246 t247 t248 t249 t250 t251 t252 t253 t254 t255 t256 t257 t258 t259 t260 t261 t262 t263 t264 t265 t266 t267 t268 t269 t270 t271 t272 t273 t274 t275 t276 t277 t278 t279 t280 t281 t282 t283 t284 t285 t286 t287 t288 t289 t290 t291 t292 t293 t294 t295 t296 t297 t298 t299 t300 t301 t302 t303 t304 t305 t306 t307 t308 t309 t310 t311 t312 t313 t314 t315 t316 t317 t318 t319 t320 t321 t322 t323 t324 t325 t326 t327 t328 t329 t330 t331 t332 t333 t334 t335 t336 t337 t338 t339 t340 t341 t342 t343 t344 t345 t346 t347 t348 t349 t350 t351 t352 t353 : Value)
    (hpl : PR.length = 80) (hpb : ∀ j, PR.getD j 0 ≤ 1048576) (hps : Sq w0 w0.heap.size AP cP (uvs PR))
    (hexit : ∀ (v : Value) (w' : World) (u11 u70 u71 u72 u73 u74 u75 u76 u77 u78 u79 u80 u81 : Value), OwnU w' w0.heap.size v ((PR.map (rt64 2)).take 8) → Below w0.heap.size w0 w' → Q (.exit 6) ⟨(t0 :: t1 :: t2 :: t3 :: t4 :: t5 :: t6 :: t7 :: (.slice AP 80 cP) :: v :: t10 :: u11 :: t12 :: t13 :: t14 :: t15 :: t16 :: t17 :: t18 :: t19 :: t20 :: t21 :: t22 :: t23 :: t24 :: t25 :: t26 :: t27 :: t28 :: t29 :: t30 :: t31 :: t32 :: t33 :: t34 :: t35 :: t36 :: t37 :: t38 :: t39 :: t40 :: t41 :: t42 :: t43 :: t44 :: t45 :: t46 :: t47 :: t48 :: t49 :: t50 :: t51 :: t52 :: t53 :: t54 :: t55 :: t56 :: t57 :: t58 :: t59 :: t60 :: t61 :: t62 :: t63 :: t64 :: t65 :: t66 :: t67 :: t68 :: t69 :: u70 :: u71 :: u72 :: u73 :: u74 :: u75 :: u76 :: u77 :: u78 :: u79 :: u80 :: u81 :: t82 :: t83 :: t84 :: t85 :: t86 :: t87 :: t88 :: t89 :: t90 :: t91 :: t92 :: t93 :: t94 :: t95 :: t96 :: t97 :: t98 :: t99 :: t100 :: t101 :: t102 :: t103 :: t104 :: t105 :: t106 :: t107 :: t108 :: t109 :: t110 :: t111 :: t112 :: t113 :: t114 :: t115 :: t116 :: t117 :: t118 :: t119 :: t120 :: t121 :: t122 :: t123 :: t124 :: t125 :: t126 :: t127 :: t128 :: t129 :: t130 :: t131 :: t132 :: t133 :: t134 :: t135 :: t136 :: t137 :: t138 :: t139 :: t140 :: t141 :: t142 :: t143 :: t144 :: t145 :: t146 :: t147 :: t148 :: t149 :: t150 :: t151 :: t152 :: t153 :: t154 :: t155 :: t156 :: t157 :: t158 :: t159 :: t160 :: t161 :: t162 :: t163 :: t164 :: t165 :: t166 :: t167 :: t168 :: t169 :: t170 :: t171 :: t172 :: t173 :: t174 :: t175 :: t176 :: t177 :: t178 :: t179 :: t180 :: t181 :: t182 :: t183 :: t184 :: t185 :: t186 :: t187 :: t188 :: t189 :: t190 :: t191 :: t192 :: t193 :: t194 :: t195 :: t196 :: t197 :: t198 :: t199 :: t200 :: t201 :: t202 :: t203 :: t204 :: t205 :: t206 :: t207 :: t208 :: t209 :: t210 :: t211 :: t212 :: t213 :: t214 :: t215 :: t216 :: t217 :: t218 :: t219 :: t220 :: t221 :: t222 :: t223 :: t224 :: t225 :: t226 :: t227 :: t228 :: t229 :: t230 :: t231 :: t232 :: t233 :: t234 :: t235 :: t236 :: t237 :: t238 :: t239 :: t240 :: t241 :: t242 :: t243 :: t244 :: t245 :: t246 :: t247 :: t248 :: t249 :: t250 :: t251 :: t252 :: t253 :: t254 :: t255 :: t256 :: t257 :: t258 :: t259 :: t260 :: t261 :: t262 :: t263 :: t264 :: t265 :: t266 :: t267 :: t268 :: t269 :: t270 :: t271 :: t272 :: t273 :: t274 :: t275 :: t276 :: t277 :: t278 :: t279 :: t280 :: t281 :: t282 :: t283 :: t284 :: t285 :: t286 :: t287 :: t288 :: t289 :: t290 :: t291 :: t292 :: t293 :: t294 :: t295 :: t296 :: t297 :: t298 :: t299 :: t300 :: t301 :: t302 :: t303 :: t304 :: t305 :: t306 :: t307 :: t308 :: t309 :: t310 :: t311 :: t312 :: t313 :: t314 :: t315 :: t316 :: t317 :: t318 :: t319 :: t320 :: t321 :: t322 :: t323 :: t324 :: t325 :: t326 :: t327 :: t328 :: t329 :: t330 :: t331 :: t332 :: t333 :: t334 :: t335 :: t336 :: t337 :: t338 :: t339 :: t340 :: t341 :: t342 :: t343 :: t344 :: t345 :: t346 :: t347 :: t348 :: t349 :: t350 :: t351 :: t352 :: t353 :: []).toArray, []⟩ w') :
    Code.wp Tryz.prog (Code.loop (loopN Tryz.f33 3)) Q ⟨(t0 :: t1 :: t2 :: t3 :: t4 :: t5 :: t6 :: t7 :: (.slice AP 80 cP) :: (.slice none 0 0) :: t10 :: (.int .i64 0) :: t12 :: t13 :: t14 :: t15 :: t16 :: t17 :: t18 :: t19 :: t20 :: t21 :: t22 :: t23 :: t24 :: t25 :: t26 :: t27 :: t28 :: t29 :: t30 :: t31 :: t32 :: t33 :: t34 :: t35 :: t36 :: t37 :: t38 :: t39 :: t40 :: t41 :: t42 :: t43 :: t44 :: t45 :: t46 :: t47 :: t48 :: t49 :: t50 :: t51 :: t52 :: t53 :: t54 :: t55 :: t56 :: t57 :: t58 :: t59 :: t60 :: t61 :: t62 :: t63 :: t64 :: t65 :: t66 :: t67 :: t68 :: t69 :: t70 :: t71 :: t72 :: t73 :: t74 :: t75 :: t76 :: t77 :: t78 :: t79 :: t80 :: t81 :: t82 :: t83 :: t84 :: t85 :: t86 :: t87 :: t88 :: t89 :: t90 :: t91 :: t92 :: t93 :: t94 :: t95 :: t96 :: t97 :: t98 :: t99 :: t100 :: t101 :: t102 :: t103 :: t104 :: t105 :: t106 :: t107 :: t108 :: t109 :: t110 :: t111 :: t112 :: t113 :: t114 :: t115 :: t116 :: t117 :: t118 :: t119 :: t120 :: t121 :: t122 :: t123 :: t124 :: t125 :: t126 :: t127 :: t128 :: t129 :: t130 :: t131 :: t132 :: t133 :: t134 :: t135 :: t136 :: t137 :: t138 :: t139 :: t140 :: t141 :: t142 :: t143 :: t144 :: t145 :: t146 :: t147 :: t148 :: t149 :: t150 :: t151 :: t152 :: t153 :: t154 :: t155 :: t156 :: t157 :: t158 :: t159 :: t160 :: t161 :: t162 :: t163 :: t164 :: t165 :: t166 :: t167 :: t168 :: t169 :: t170 :: t171 :: t172 :: t173 :: t174 :: t175 :: t176 :: t177 :: t178 :: t179 :: t180 :: t181 :: t182 :: t183 :: t184 :: t185 :: t186 :: t187 :: t188 :: t189 :: t190 :: t191 :: t192 :: t193 :: t194 :: t195 :: t196 :: t197 :: t198 :: t199 :: t200 :: t201 :: t202 :: t203 :: t204 :: t205 :: t206 :: t207 :: t208 :: t209 :: t210 :: t211 :: t212 :: t213 :: t214 :: t215 :: t216 :: t217 :: t218 :: t219 :: t220 :: t221 :: t222 :: t223 :: t224 :: t225 :: t226 :: t227 :: t228 :: t229 :: t230 :: t231 :: t232 :: t233 :: t234 :: t235 :: t236 :: t237 :: t238 :: t239 :: t240 :: t241 :: t242 :: t243 :: t244 :: t245 :: t246 :: t247 :: t248 :: t249 :: t250 :: t251 :: t252 :: t253 :: t254 :: t255 :: t256 :: t257 :: t258 :: t259 :: t260 :: t261 :: t262 :: t263 :: t264 :: t265 :: t266 :: t267 :: t268 :: t269 :: t270 :: t271 :: t272 :: t273 :: t274 :: t275 :: t276 :: t277 :: t278 :: t279 :: t280 :: t281 :: t282 :: t283 :: t284 :: t285 :: t286 :: t287 :: t288 :: t289 :: t290 :: t291 :: t292 :: t293 :: t294 :: t295 :: t296 :: t297 :: t298 :: t299 :: t300 :: t301 :: t302 :: t303 :: t304 :: t305 :: t306 :: t307 :: t308 :: t309 :: t310 :: t311 :: t312 :: t313 :: t314 :: t315 :: t316 :: t317 :: t318 :: t319 :: t320 :: t321 :: t322 :: t323 :: t324 :: t325 :: t326 :: t327 :: t328 :: t329 :: t330 :: t331 :: t332 :: t333 :: t334 :: t335 :: t336 :: t337 :: t338 :: t339 :: t340 :: t341 :: t342 :: t343 :: t344 :: t345 :: t346 :: t347 :: t348 :: t349 :: t350 :: t351 :: t352 :: t353 :: []).toArray, []⟩ w0 := by
  conv => arg 2; arg 1; whnf
  have HPL := hid hpl; have HPB := hid hpb; have HPS := hid hps
  clear hpl hpb hps
  go_loopg [9, 11] 8 (fun g v i wr => ∃ j : Nat, j + g = 8 ∧ i = .int .i64 (j : Int) ∧ OwnU wr w0.heap.size v ((PR.map (rt64 2)).take j) ∧ Below w0.heap.size w0 wr)
  case atStart => exact ⟨0, rfl, rfl, ownu_nil _ _, Below.refl _ _⟩
  case round =>
    obtain ⟨j, hj, rfl, ho, hb⟩ := hrel
    obtain ⟨wq, rfl⟩ : ∃ wq : World, wq = wr := ⟨_, rfl⟩
    have hj2 : j ≤ 8 := by omega
    obtain ⟨xs, hxs⟩ : ∃ xs, xs = (PR.map (rt64 2)).take j := ⟨_, rfl⟩
    rw [← hxs] at ho
    have hxl : xs.length = j := by rw [hxs, List.length_take, List.length_map, HPL.out]; omega
    have HJ := hid hj; have HXS := hid hxs; have HXL := hid hxl; have HB := hid hb
    by_cases hlt : j < 8
    · obtain ⟨A3, c3, rfl, _⟩ := own_sl ho
      have HO := hid ho
      clear hj hxs hxl ho hb hexit
      have hji : (j : Int) < 8 := by omega
      have hj0 : (0 : Int) ≤ (j : Int) := by omega
      have hjp : (j : Int) < 80 := by omega
      obtain ⟨p, hp⟩ : ∃ p, p = PR.getD j 0 := ⟨_, rfl⟩
      have hpb : p ≤ 1048576 := by rw [hp]; exact HPB.out j
      obtain ⟨bP, oP, hAP, hbP, hcP⟩ := uvs_get (HPS.out.below HB.out) (k := j) (by rw [HPL.out]; omega)
      rw [← hp] at hcP
      have hpg : PR[j]? = some p := by rw [hp, List.getD_eq_getElem?_getD, List.getElem?_eq_getElem (by rw [HPL.out]; omega)]; rfl
      have hsn : (PR.map (rt64 2)).take (j + 1) = xs ++ [rt64 2 p] := by rw [List.take_add_one, ← HXS.out, List.getElem?_map, hpg]; rfl
      subst hAP
      obtain ⟨f, hf⟩ : ∃ f, f = rbits (p * 2 ^ (64 * 2)) 2 0 70 % 18446744073709551616 := ⟨_, rfl⟩
      have HR := Root2_any p wq hpb
      rw [← hf] at HR
      have hrr : rt64 2 p = f := by rw [hf]; rfl
      rw [hrr] at hsn
      have HR := hid HR; have HSN := hid hsn
      clear hp hpg hsn hf hrr
      go_wp2_with fail
      refine HR.out.mono ?_
      rintro e w5 ⟨rfl, hb5⟩
      have hO5 : OwnU w5 w0.heap.size (.slice A3 xs.length c3) xs := World.ownsRow.kept HO.out (⟨hb5.os, hb5.tape, hb5.output, hb5.size, fun k hk _ => hb5.block k hk⟩ : wq.grownBy w5 none) (Classical.em _)
      have HB5 := hid (HB.out.trans (hb5.mono HB.out.size))
      have HO5 := hid (World.ownsRow.alloc hO5 (.cells #[.int .u64 (f : Int)] 28))
      clear hb5 hO5 HR hcP
      go_wp2_with (at_builtin; refine wpList_append_lie rfl (.tmp 74) (.tmp 80) 80 rfl w0.heap.size 28 (.int .u64 0) 8 Tryz.underlying80 infoU64 rfl rfl HO5.out rfl rfl (Lie.new1 _ _ _) (by intro u hu; simp at hu; subst hu; rfl) (by rw [List.length_singleton, HXL.out]; unfold maxLen; omega) (by rw [List.length_singleton, HXL.out]; omega) (by have := HB5.out.size; simp; omega) ?_)
      intro v6 w6 hown6 hg6 _
      have hO6 : OwnU w6 w0.heap.size v6 ((PR.map (rt64 2)).take (j + 1)) := by rw [HSN.out]; exact ownu_snoc hown6 rfl rfl
      have hB6 : Below w0.heap.size w0 w6 := (HB5.out.alloc HB5.out.size _).grown hg6 (by have := HB5.out.size; simp; omega) (fun q h => own_lt HO5.out q h)
      have HO6 := hid hO6; have HB6 := hid hB6
      clear hown6 hg6 hO6 hB6 HO5
      go_wp2
      have hj := HJ.out
      go_roundg (8 - j - 1)
      case measure => omega
      case rel => exact ⟨j + 1, by omega, by go_num, HO6.out, HB6.out⟩
    · obtain rfl : j = 8 := by omega
      have hji : ¬ ((8 : Nat) : Int) < 8 := by omega
      rw [hxs] at ho
      have HO := hid ho
      clear hj hxs hxl ho hb HXS HXL
      go_wp2
      exact hexit _ wq _ _ _ _ _ _ _ _ _ _ _ _ _ HO.out HB.out
set_option maxRecDepth 100000 in
set_option maxHeartbeats 3200000 in
theorem ks3_loop {Q : Exit → Act → World → Prop} (AP : Option Addr) (cP : Nat) (PR : List Nat) (w0 : World) (t0 t1 t2 t3 t4 t5 t6 t7 t9 t11 t13 t14 t15 t16 t17 t18 t19 t20 t21 t22 t23 t24 t25 t26 t27 t28 t29 t30 t31 t32 t33 t34 t35 t36 t37 t38 t39 t40 t41 t42 t43 t44 t45 t46 t47 t48 t49 t50 t51 t52 t53 t54 t55 t56 t57 t58 t59 t60 t61 t62 t63 t64 t65 t66 t67 t68 t69 t70 t71 t72 t73 t74 t75 t76 t77 t78 t79 t80 t81 t82 t83 t84 t85 t86 t87 t88 t89 t90 t91 t92 t93 t94 t95 t96 t97 t98 t99 t100 t101 t102 t103 t104 t105 t106 t107 t108 t109 t110 t111 t112 t113 t114 t115 t116 t117 t118 t119 t120 t121 t122 t123 t124 t125 t126 t127 t128 t129 t130 t131 t132 t133 t134 t135 t136 t137 t138 t139 t140 t141 t142 t143 t144 t145 t146 t147 t148 t149 t150 t151 t152 t153 t154 t155 t156 t157 t158 t159 t160 t161 t162 t163 t164 t165 t166 t167 t168 t169 t170 t171 t172 t173 t174 t175 t176 t177 t178 t179 t180 t181 t182 t183 t184 t185 t186 t187 t188 t189 t190 t191 t192 t193 t194 t195 t196 t197 t198 t199 t200 t201 t202 t203 t204 t205 t206 t207 t208 t209 t210 t211 t212 t213 t214 t215 t216 t217 t218 t219 t220 t221 t222 t223 t224 t225 t226 t227 t228 t229 t230 t231 t232 t233 t234 t235 t236 t237 t238 t239 t240 t241 t242 t243 t244 t245 t246 t247 t248 t249 t250 t251 t252 t253 t254 t255 t256 t257 t258 t259 t260 t261 t262 t263 t264 t265 t266 t267 t268 t269 t270 t271 t272 t273 t274 t275 t276 t277 t278 t279 t280 t281 t282 t283 t284 t285 t286 t287 t288 t289 t290 t291 t292 t293 t294 t295 t296 t297 t298 t299 t300 t301 t302 t303 t304 t305 t306 t307 t308 t309 t310 t311 t312 t313 t314 t315 t316 t317 t318 t319 t320 t321 t322 t323 t324 t325 t326 t327 t328 t329 t330 t331 t332 t333 t334 t335 t336 t337 t338 t339 t340 t341 t342 t343 t344 t345 t346 t347 t348 t349 t350 t351 t352 t353 : Value)
    (hpl : PR.length = 80) (hpb : ∀ j, PR.getD j 0 ≤ 1048576) (hps : Sq w0 w0.heap.size AP cP (uvs PR))
    (hexit : ∀ (v : Value) (w' : World) (u12 u82 u83 u84 u85 u86 u87 u88 u89 u90 u91 u92 u93 : Value), OwnU w' w0.heap.size v ((PR.map (rt64 3)).take 80) → Below w0.heap.size w0 w' → Q (.exit 8) ⟨(t0 :: t1 :: t2 :: t3 :: t4 :: t5 :: t6 :: t7 :: (.slice AP 80 cP) :: t9 :: v :: t11 :: u12 :: t13 :: t14 :: t15 :: t16 :: t17 :: t18 :: t19 :: t20 :: t21 :: t22 :: t23 :: t24 :: t25 :: t26 :: t27 :: t28 :: t29 :: t30 :: t31 :: t32 :: t33 :: t34 :: t35 :: t36 :: t37 :: t38 :: t39 :: t40 :: t41 :: t42 :: t43 :: t44 :: t45 :: t46 :: t47 :: t48 :: t49 :: t50 :: t51 :: t52 :: t53 :: t54 :: t55 :: t56 :: t57 :: t58 :: t59 :: t60 :: t61 :: t62 :: t63 :: t64 :: t65 :: t66 :: t67 :: t68 :: t69 :: t70 :: t71 :: t72 :: t73 :: t74 :: t75 :: t76 :: t77 :: t78 :: t79 :: t80 :: t81 :: u82 :: u83 :: u84 :: u85 :: u86 :: u87 :: u88 :: u89 :: u90 :: u91 :: u92 :: u93 :: t94 :: t95 :: t96 :: t97 :: t98 :: t99 :: t100 :: t101 :: t102 :: t103 :: t104 :: t105 :: t106 :: t107 :: t108 :: t109 :: t110 :: t111 :: t112 :: t113 :: t114 :: t115 :: t116 :: t117 :: t118 :: t119 :: t120 :: t121 :: t122 :: t123 :: t124 :: t125 :: t126 :: t127 :: t128 :: t129 :: t130 :: t131 :: t132 :: t133 :: t134 :: t135 :: t136 :: t137 :: t138 :: t139 :: t140 :: t141 :: t142 :: t143 :: t144 :: t145 :: t146 :: t147 :: t148 :: t149 :: t150 :: t151 :: t152 :: t153 :: t154 :: t155 :: t156 :: t157 :: t158 :: t159 :: t160 :: t161 :: t162 :: t163 :: t164 :: t165 :: t166 :: t167 :: t168 :: t169 :: t170 :: t171 :: t172 :: t173 :: t174 :: t175 :: t176 :: t177 :: t178 :: t179 :: t180 :: t181 :: t182 :: t183 :: t184 :: t185 :: t186 :: t187 :: t188 :: t189 :: t190 :: t191 :: t192 :: t193 :: t194 :: t195 :: t196 :: t197 :: t198 :: t199 :: t200 :: t201 :: t202 :: t203 :: t204 :: t205 :: t206 :: t207 :: t208 :: t209 :: t210 :: t211 :: t212 :: t213 :: t214 :: t215 :: t216 :: t217 :: t218 :: t219 :: t220 :: t221 :: t222 :: t223 :: t224 :: t225 :: t226 :: t227 :: t228 :: t229 :: t230 :: t231 :: t232 :: t233 :: t234 :: t235 :: t236 :: t237 :: t238 :: t239 :: t240 :: t241 :: t242 :: t243 :: t244 :: t245 :: t246 :: t247 :: t248 :: t249 :: t250 :: t251 :: t252 :: t253 :: t254 :: t255 :: t256 :: t257 :: t258 :: t259 :: t260 :: t261 :: t262 :: t263 :: t264 :: t265 :: t266 :: t267 :: t268 :: t269 :: t270 :: t271 :: t272 :: t273 :: t274 :: t275 :: t276 :: t277 :: t278 :: t279 :: t280 :: t281 :: t282 :: t283 :: t284 :: t285 :: t286 :: t287 :: t288 :: t289 :: t290 :: t291 :: t292 :: t293 :: t294 :: t295 :: t296 :: t297 :: t298 :: t299 :: t300 :: t301 :: t302 :: t303 :: t304 :: t305 :: t306 :: t307 :: t308 :: t309 :: t310 :: t311 :: t312 :: t313 :: t314 :: t315 :: t316 :: t317 :: t318 :: t319 :: t320 :: t321 :: t322 :: t323 :: t324 :: t325 :: t326 :: t327 :: t328 :: t329 :: t330 :: t331 :: t332 :: t333 :: t334 :: t335 :: t336 :: t337 :: t338 :: t339 :: t340 :: t341 :: t342 :: t343 :: t344 :: t345 :: t346 :: t347 :: t348 :: t349 :: t350 :: t351 :: t352 :: t353 :: []).toArray, []⟩ w') :
    Code.wp Tryz.prog (Code.loop (loopN Tryz.f33 4)) Q ⟨(t0 :: t1 :: t2 :: t3 :: t4 :: t5 :: t6 :: t7 :: (.slice AP 80 cP) :: t9 :: (.slice none 0 0) :: t11 :: (.int .i64 0) :: t13 :: t14 :: t15 :: t16 :: t17 :: t18 :: t19 :: t20 :: t21 :: t22 :: t23 :: t24 :: t25 :: t26 :: t27 :: t28 :: t29 :: t30 :: t31 :: t32 :: t33 :: t34 :: t35 :: t36 :: t37 :: t38 :: t39 :: t40 :: t41 :: t42 :: t43 :: t44 :: t45 :: t46 :: t47 :: t48 :: t49 :: t50 :: t51 :: t52 :: t53 :: t54 :: t55 :: t56 :: t57 :: t58 :: t59 :: t60 :: t61 :: t62 :: t63 :: t64 :: t65 :: t66 :: t67 :: t68 :: t69 :: t70 :: t71 :: t72 :: t73 :: t74 :: t75 :: t76 :: t77 :: t78 :: t79 :: t80 :: t81 :: t82 :: t83 :: t84 :: t85 :: t86 :: t87 :: t88 :: t89 :: t90 :: t91 :: t92 :: t93 :: t94 :: t95 :: t96 :: t97 :: t98 :: t99 :: t100 :: t101 :: t102 :: t103 :: t104 :: t105 :: t106 :: t107 :: t108 :: t109 :: t110 :: t111 :: t112 :: t113 :: t114 :: t115 :: t116 :: t117 :: t118 :: t119 :: t120 :: t121 :: t122 :: t123 :: t124 :: t125 :: t126 :: t127 :: t128 :: t129 :: t130 :: t131 :: t132 :: t133 :: t134 :: t135 :: t136 :: t137 :: t138 :: t139 :: t140 :: t141 :: t142 :: t143 :: t144 :: t145 :: t146 :: t147 :: t148 :: t149 :: t150 :: t151 :: t152 :: t153 :: t154 :: t155 :: t156 :: t157 :: t158 :: t159 :: t160 :: t161 :: t162 :: t163 :: t164 :: t165 :: t166 :: t167 :: t168 :: t169 :: t170 :: t171 :: t172 :: t173 :: t174 :: t175 :: t176 :: t177 :: t178 :: t179 :: t180 :: t181 :: t182 :: t183 :: t184 :: t185 :: t186 :: t187 :: t188 :: t189 :: t190 :: t191 :: t192 :: t193 :: t194 :: t195 :: t196 :: t197 :: t198 :: t199 :: t200 :: t201 :: t202 :: t203 :: t204 :: t205 :: t206 :: t207 :: t208 :: t209 :: t210 :: t211 :: t212 :: t213 :: t214 :: t215 :: t216 :: t217 :: t218 :: t219 :: t220 :: t221 :: t222 :: t223 :: t224 :: t225 :: t226 :: t227 :: t228 :: t229 :: t230 :: t231 :: t232 :: t233 :: t234 :: t235 :: t236 :: t237 :: t238 :: t239 :: t240 :: t241 :: t242 :: t243 :: t244 :: t245 :: t246 :: t247 :: t248 :: t249 :: t250 :: t251 :: t252 :: t253 :: t254 :: t255 :: t256 :: t257 :: t258 :: t259 :: t260 :: t261 :: t262 :: t263 :: t264 :: t265 :: t266 :: t267 :: t268 :: t269 :: t270 :: t271 :: t272 :: t273 :: t274 :: t275 :: t276 :: t277 :: t278 :: t279 :: t280 :: t281 :: t282 :: t283 :: t284 :: t285 :: t286 :: t287 :: t288 :: t289 :: t290 :: t291 :: t292 :: t293 :: t294 :: t295 :: t296 :: t297 :: t298 :: t299 :: t300 :: t301 :: t302 :: t303 :: t304 :: t305 :: t306 :: t307 :: t308 :: t309 :: t310 :: t311 :: t312 :: t313 :: t314 :: t315 :: t316 :: t317 :: t318 :: t319 :: t320 :: t321 :: t322 :: t323 :: t324 :: t325 :: t326 :: t327 :: t328 :: t329 :: t330 :: t331 :: t332 :: t333 :: t334 :: t335 :: t336 :: t337 :: t338 :: t339 :: t340 :: t341 :: t342 :: t343 :: t344 :: t345 :: t346 :: t347 :: t348 :: t349 :: t350 :: t351 :: t352 :: t353 :: []).toArray, []⟩ w0 := by
  conv => arg 2; arg 1; whnf
  have HPL := hid hpl; have HPB := hid hpb; have HPS := hid hps
  clear hpl hpb hps
  go_loopg [10, 12] 80 (fun g v i wr => ∃ j : Nat, j + g = 80 ∧ i = .int .i64 (j : Int) ∧ OwnU wr w0.heap.size v ((PR.map (rt64 3)).take j) ∧ Below w0.heap.size w0 wr)
  case atStart => exact ⟨0, rfl, rfl, ownu_nil _ _, Below.refl _ _⟩
  case round =>
    obtain ⟨j, hj, rfl, ho, hb⟩ := hrel
    obtain ⟨wq, rfl⟩ : ∃ wq : World, wq = wr := ⟨_, rfl⟩
    have hj2 : j ≤ 80 := by omega
    obtain ⟨xs, hxs⟩ : ∃ xs, xs = (PR.map (rt64 3)).take j := ⟨_, rfl⟩
    rw [← hxs] at ho
    have hxl : xs.length = j := by rw [hxs, List.length_take, List.length_map, HPL.out]; omega
    have HJ := hid hj; have HXS := hid hxs; have HXL := hid hxl; have HB := hid hb
    by_cases hlt : j < 80
    · obtain ⟨A3, c3, rfl, _⟩ := own_sl ho
      have HO := hid ho
      clear hj hxs hxl ho hb hexit
      have hji : (j : Int) < 80 := by omega
      have hj0 : (0 : Int) ≤ (j : Int) := by omega
      have hjp : (j : Int) < 80 := by omega
      obtain ⟨p, hp⟩ : ∃ p, p = PR.getD j 0 := ⟨_, rfl⟩
      have hpb : p ≤ 1048576 := by rw [hp]; exact HPB.out j
      obtain ⟨bP, oP, hAP, hbP, hcP⟩ := uvs_get (HPS.out.below HB.out) (k := j) (by rw [HPL.out]; omega)
      rw [← hp] at hcP
      have hpg : PR[j]? = some p := by rw [hp, List.getD_eq_getElem?_getD, List.getElem?_eq_getElem (by rw [HPL.out]; omega)]; rfl
      have hsn : (PR.map (rt64 3)).take (j + 1) = xs ++ [rt64 3 p] := by rw [List.take_add_one, ← HXS.out, List.getElem?_map, hpg]; rfl
      subst hAP
      obtain ⟨f, hf⟩ : ∃ f, f = rbits (p * 2 ^ (64 * 3)) 3 0 70 % 18446744073709551616 := ⟨_, rfl⟩
      have HR := Root3_any p wq hpb
      rw [← hf] at HR
      have hrr : rt64 3 p = f := by rw [hf]; rfl
      rw [hrr] at hsn
      have HR := hid HR; have HSN := hid hsn
      clear hp hpg hsn hf hrr
      go_wp2_with fail
      refine HR.out.mono ?_
      rintro e w5 ⟨rfl, hb5⟩
      have hO5 : OwnU w5 w0.heap.size (.slice A3 xs.length c3) xs := World.ownsRow.kept HO.out (⟨hb5.os, hb5.tape, hb5.output, hb5.size, fun k hk _ => hb5.block k hk⟩ : wq.grownBy w5 none) (Classical.em _)
      have HB5 := hid (HB.out.trans (hb5.mono HB.out.size))
      have HO5 := hid (World.ownsRow.alloc hO5 (.cells #[.int .u64 (f : Int)] 28))
      clear hb5 hO5 HR hcP
      go_wp2_with (at_builtin; refine wpList_append_lie rfl (.tmp 86) (.tmp 92) 80 rfl w0.heap.size 28 (.int .u64 0) 8 Tryz.underlying80 infoU64 rfl rfl HO5.out rfl rfl (Lie.new1 _ _ _) (by intro u hu; simp at hu; subst hu; rfl) (by rw [List.length_singleton, HXL.out]; unfold maxLen; omega) (by rw [List.length_singleton, HXL.out]; omega) (by have := HB5.out.size; simp; omega) ?_)
      intro v6 w6 hown6 hg6 _
      have hO6 : OwnU w6 w0.heap.size v6 ((PR.map (rt64 3)).take (j + 1)) := by rw [HSN.out]; exact ownu_snoc hown6 rfl rfl
      have hB6 : Below w0.heap.size w0 w6 := (HB5.out.alloc HB5.out.size _).grown hg6 (by have := HB5.out.size; simp; omega) (fun q h => own_lt HO5.out q h)
      have HO6 := hid hO6; have HB6 := hid hB6
      clear hown6 hg6 hO6 hB6 HO5
      go_wp2
      have hj := HJ.out
      go_roundg (80 - j - 1)
      case measure => omega
      case rel => exact ⟨j + 1, by omega, by go_num, HO6.out, HB6.out⟩
    · obtain rfl : j = 80 := by omega
      have hji : ¬ ((80 : Nat) : Int) < 80 := by omega
      rw [hxs] at ho
      have HO := hid ho
      clear hj hxs hxl ho hb HXS HXL
      go_wp2
      exact hexit _ wq _ _ _ _ _ _ _ _ _ _ _ _ _ HO.out HB.out
end Go.Proofs.YtheamlhhfkaknaaGreatDoor
namespace Go.Proofs.YtheamlhhfkaknaaGreatDoor
open Go.RowKit
set_option linter.unusedVariables false
set_option linter.unusedSimpArgs false
theorem bytesL_getD (s : St8) (n : Nat) (h : n < 64) : s.bytesL.getD n 0 = UInt8.ofNat (s.list.getD (n / 8) 0 / 256 ^ (7 - n % 8)) := by
  obtain ⟨q, r, hr, rfl⟩ : ∃ q r, r < 8 ∧ n = 8 * q + r := ⟨n / 8, n % 8, Nat.mod_lt _ (by omega), by omega⟩
  have hq : q < 8 := by omega
  rcases (by omega : q = 0 ∨ q = 1 ∨ q = 2 ∨ q = 3 ∨ q = 4 ∨ q = 5 ∨ q = 6 ∨ q = 7) with rfl | rfl | rfl | rfl | rfl | rfl | rfl | rfl <;>
    rcases (by omega : r = 0 ∨ r = 1 ∨ r = 2 ∨ r = 3 ∨ r = 4 ∨ r = 5 ∨ r = 6 ∨ r = 7) with rfl | rfl | rfl | rfl | rfl | rfl | rfl | rfl <;> rfl
theorem bytesL_take (s : St8) (n : Nat) (h : n < 64) : s.bytesL.take (n + 1) = s.bytesL.take n ++ [s.bytesL.getD n 0] := by
  have hl := St8.bytesL_length s
  rw [List.take_succ_eq_append_getElem (by omega), List.getD_eq_getElem?_getD, List.getElem?_eq_getElem (by omega)]
  rfl
set_option maxRecDepth 100000 in
set_option maxHeartbeats 4000000 in
theorem out3_loop {Q : Exit → Act → World → Prop} (gh ch : Nat) (s : St8) (w0 : World) (t0 t1 t2 t3 t4 t5 t6 t7 t8 t10 t11 t12 t13 t14 t15 t16 t17 t18 t19 t20 t21 t22 t23 t24 t25 t26 t27 t28 t29 t32 t33 t34 t35 t36 t37 t38 t39 t40 t41 t42 t43 t44 t45 t46 t47 t48 t49 t50 t51 t52 t53 t54 t55 t56 t57 t58 t59 t60 t61 t62 t63 t64 t65 t66 t67 t68 t69 t70 t71 t72 t73 t74 t75 t76 t77 t78 t79 t80 t81 t82 t83 t84 t85 t86 t87 t88 t89 t90 t91 t92 t93 t94 t95 t96 t97 t98 t99 t100 t101 t102 t103 t104 t105 t106 t107 t108 t109 t110 t111 t112 t113 t114 t115 t116 t117 t118 t119 t120 t121 t122 t123 t124 t125 t126 t127 t128 t129 t130 t131 t132 t133 t134 t135 t136 t137 t138 t139 t140 t141 t142 t143 t144 t145 t146 t147 t148 t149 t150 t151 t152 t153 t154 t155 t156 t157 t158 t159 t160 t161 t162 t163 t164 t165 t166 t167 t168 t169 t170 t171 t172 t173 t174 t175 t176 t177 t178 t179 t180 t181 t182 t183 t184 t185 t186 t187 t188 t189 t190 t191 t192 t193 t194 t195 t196 t197 t198 t199 t200 t201 t202 t203 t204 t205 t206 t207 t208 t209 t210 t211 t212 t213 t214 t215 t216 t217 t218 t219 t220 t221 t222 t223 t224 t225 t226 t227 t228 t229 t230 t231 t232 t233 t234 t235 t236 t237 t238 t239 t240 t241 t242 t243 t244 t245 t246 t247 t248 t249 t250 t251 t252 t253 t254 t255 t256 t257 t258 t259 t260 t261 t262 t263 t264 t265 t266 t267 t268 t269 t270 t271 t272 t273 t274 t275 t276 t277 t278 t279 t280 t281 t282 t283 t284 t285 t286 t287 t288 t289 t290 t291 t292 t293 t294 t295 t296 t297 t298 t299 t300 t301 t302 t303 t304 t305 t306 t307 t308 t309 t310 t311 t312 t313 t314 t315 t316 t317 t318 t319 t320 t321 t322 t323 t324 t325 t326 t327 t328 t329 t330 t331 t332 t333 t334 t335 t336 t337 t338 t339 t340 t341 t342 t343 t344 t345 t346 t347 t348 t349 t350 t351 t352 t353 : Value)
    (hs : s.okL) (hch : 8 ≤ ch) (hrs : RowU w0 gh s.list)
    (hexit : ∀ (v : Value) (w' : World) (u31 u32 u33 u329 u330 u331 u332 u333 u334 u335 u336 u337 u338 u339 u340 u341 u342 u343 u344 u345 u346 u347 u348 u349 u350 u351 u352 : Value), OwnB w' w0.heap.size v s.bytesL → Below w0.heap.size w0 w' → Q (.exit 22) ⟨(t0 :: t1 :: t2 :: t3 :: t4 :: t5 :: t6 :: t7 :: t8 :: (.slice (some ⟨gh, 0, none⟩) 8 ch) :: t10 :: t11 :: t12 :: t13 :: t14 :: t15 :: t16 :: t17 :: t18 :: t19 :: t20 :: t21 :: t22 :: t23 :: t24 :: t25 :: t26 :: t27 :: t28 :: t29 :: v :: u31 :: u32 :: u33 :: t34 :: t35 :: t36 :: t37 :: t38 :: t39 :: t40 :: t41 :: t42 :: t43 :: t44 :: t45 :: t46 :: t47 :: t48 :: t49 :: t50 :: t51 :: t52 :: t53 :: t54 :: t55 :: t56 :: t57 :: t58 :: t59 :: t60 :: t61 :: t62 :: t63 :: t64 :: t65 :: t66 :: t67 :: t68 :: t69 :: t70 :: t71 :: t72 :: t73 :: t74 :: t75 :: t76 :: t77 :: t78 :: t79 :: t80 :: t81 :: t82 :: t83 :: t84 :: t85 :: t86 :: t87 :: t88 :: t89 :: t90 :: t91 :: t92 :: t93 :: t94 :: t95 :: t96 :: t97 :: t98 :: t99 :: t100 :: t101 :: t102 :: t103 :: t104 :: t105 :: t106 :: t107 :: t108 :: t109 :: t110 :: t111 :: t112 :: t113 :: t114 :: t115 :: t116 :: t117 :: t118 :: t119 :: t120 :: t121 :: t122 :: t123 :: t124 :: t125 :: t126 :: t127 :: t128 :: t129 :: t130 :: t131 :: t132 :: t133 :: t134 :: t135 :: t136 :: t137 :: t138 :: t139 :: t140 :: t141 :: t142 :: t143 :: t144 :: t145 :: t146 :: t147 :: t148 :: t149 :: t150 :: t151 :: t152 :: t153 :: t154 :: t155 :: t156 :: t157 :: t158 :: t159 :: t160 :: t161 :: t162 :: t163 :: t164 :: t165 :: t166 :: t167 :: t168 :: t169 :: t170 :: t171 :: t172 :: t173 :: t174 :: t175 :: t176 :: t177 :: t178 :: t179 :: t180 :: t181 :: t182 :: t183 :: t184 :: t185 :: t186 :: t187 :: t188 :: t189 :: t190 :: t191 :: t192 :: t193 :: t194 :: t195 :: t196 :: t197 :: t198 :: t199 :: t200 :: t201 :: t202 :: t203 :: t204 :: t205 :: t206 :: t207 :: t208 :: t209 :: t210 :: t211 :: t212 :: t213 :: t214 :: t215 :: t216 :: t217 :: t218 :: t219 :: t220 :: t221 :: t222 :: t223 :: t224 :: t225 :: t226 :: t227 :: t228 :: t229 :: t230 :: t231 :: t232 :: t233 :: t234 :: t235 :: t236 :: t237 :: t238 :: t239 :: t240 :: t241 :: t242 :: t243 :: t244 :: t245 :: t246 :: t247 :: t248 :: t249 :: t250 :: t251 :: t252 :: t253 :: t254 :: t255 :: t256 :: t257 :: t258 :: t259 :: t260 :: t261 :: t262 :: t263 :: t264 :: t265 :: t266 :: t267 :: t268 :: t269 :: t270 :: t271 :: t272 :: t273 :: t274 :: t275 :: t276 :: t277 :: t278 :: t279 :: t280 :: t281 :: t282 :: t283 :: t284 :: t285 :: t286 :: t287 :: t288 :: t289 :: t290 :: t291 :: t292 :: t293 :: t294 :: t295 :: t296 :: t297 :: t298 :: t299 :: t300 :: t301 :: t302 :: t303 :: t304 :: t305 :: t306 :: t307 :: t308 :: t309 :: t310 :: t311 :: t312 :: t313 :: t314 :: t315 :: t316 :: t317 :: t318 :: t319 :: t320 :: t321 :: t322 :: t323 :: t324 :: t325 :: t326 :: t327 :: t328 :: u329 :: u330 :: u331 :: u332 :: u333 :: u334 :: u335 :: u336 :: u337 :: u338 :: u339 :: u340 :: u341 :: u342 :: u343 :: u344 :: u345 :: u346 :: u347 :: u348 :: u349 :: u350 :: u351 :: u352 :: t353 :: []).toArray, []⟩ w') :
    Code.wp Tryz.prog (Code.loop (loopN Tryz.f33 11)) Q ⟨(t0 :: t1 :: t2 :: t3 :: t4 :: t5 :: t6 :: t7 :: t8 :: (.slice (some ⟨gh, 0, none⟩) 8 ch) :: t10 :: t11 :: t12 :: t13 :: t14 :: t15 :: t16 :: t17 :: t18 :: t19 :: t20 :: t21 :: t22 :: t23 :: t24 :: t25 :: t26 :: t27 :: t28 :: t29 :: (.slice none 0 0) :: (.int .i64 0) :: t32 :: t33 :: t34 :: t35 :: t36 :: t37 :: t38 :: t39 :: t40 :: t41 :: t42 :: t43 :: t44 :: t45 :: t46 :: t47 :: t48 :: t49 :: t50 :: t51 :: t52 :: t53 :: t54 :: t55 :: t56 :: t57 :: t58 :: t59 :: t60 :: t61 :: t62 :: t63 :: t64 :: t65 :: t66 :: t67 :: t68 :: t69 :: t70 :: t71 :: t72 :: t73 :: t74 :: t75 :: t76 :: t77 :: t78 :: t79 :: t80 :: t81 :: t82 :: t83 :: t84 :: t85 :: t86 :: t87 :: t88 :: t89 :: t90 :: t91 :: t92 :: t93 :: t94 :: t95 :: t96 :: t97 :: t98 :: t99 :: t100 :: t101 :: t102 :: t103 :: t104 :: t105 :: t106 :: t107 :: t108 :: t109 :: t110 :: t111 :: t112 :: t113 :: t114 :: t115 :: t116 :: t117 :: t118 :: t119 :: t120 :: t121 :: t122 :: t123 :: t124 :: t125 :: t126 :: t127 :: t128 :: t129 :: t130 :: t131 :: t132 :: t133 :: t134 :: t135 :: t136 :: t137 :: t138 :: t139 :: t140 :: t141 :: t142 :: t143 :: t144 :: t145 :: t146 :: t147 :: t148 :: t149 :: t150 :: t151 :: t152 :: t153 :: t154 :: t155 :: t156 :: t157 :: t158 :: t159 :: t160 :: t161 :: t162 :: t163 :: t164 :: t165 :: t166 :: t167 :: t168 :: t169 :: t170 :: t171 :: t172 :: t173 :: t174 :: t175 :: t176 :: t177 :: t178 :: t179 :: t180 :: t181 :: t182 :: t183 :: t184 :: t185 :: t186 :: t187 :: t188 :: t189 :: t190 :: t191 :: t192 :: t193 :: t194 :: t195 :: t196 :: t197 :: t198 :: t199 :: t200 :: t201 :: t202 :: t203 :: t204 :: t205 :: t206 :: t207 :: t208 :: t209 :: t210 :: t211 :: t212 :: t213 :: t214 :: t215 :: t216 :: t217 :: t218 :: t219 :: t220 :: t221 :: t222 :: t223 :: t224 :: t225 :: t226 :: t227 :: t228 :: t229 :: t230 :: t231 :: t232 :: t233 :: t234 :: t235 :: t236 :: t237 :: t238 :: t239 :: t240 :: t241 :: t242 :: t243 :: t244 :: t245 :: t246 :: t247 :: t248 :: t249 :: t250 :: t251 :: t252 :: t253 :: t254 :: t255 :: t256 :: t257 :: t258 :: t259 :: t260 :: t261 :: t262 :: t263 :: t264 :: t265 :: t266 :: t267 :: t268 :: t269 :: t270 :: t271 :: t272 :: t273 :: t274 :: t275 :: t276 :: t277 :: t278 :: t279 :: t280 :: t281 :: t282 :: t283 :: t284 :: t285 :: t286 :: t287 :: t288 :: t289 :: t290 :: t291 :: t292 :: t293 :: t294 :: t295 :: t296 :: t297 :: t298 :: t299 :: t300 :: t301 :: t302 :: t303 :: t304 :: t305 :: t306 :: t307 :: t308 :: t309 :: t310 :: t311 :: t312 :: t313 :: t314 :: t315 :: t316 :: t317 :: t318 :: t319 :: t320 :: t321 :: t322 :: t323 :: t324 :: t325 :: t326 :: t327 :: t328 :: t329 :: t330 :: t331 :: t332 :: t333 :: t334 :: t335 :: t336 :: t337 :: t338 :: t339 :: t340 :: t341 :: t342 :: t343 :: t344 :: t345 :: t346 :: t347 :: t348 :: t349 :: t350 :: t351 :: t352 :: t353 :: []).toArray, []⟩ w0 := by
  conv => arg 2; arg 1; whnf
  have HS := hid hs; have HRS := hid hrs
  clear hs hrs
  go_loopg [30, 31] 64 (fun g v i wr => ∃ n : Nat, n + g = 64 ∧ i = .int .i64 (n : Int) ∧ OwnB wr w0.heap.size v (s.bytesL.take n) ∧ Below w0.heap.size w0 wr)
  case atStart => exact ⟨0, rfl, rfl, ⟨rfl, .inl ⟨rfl, rfl⟩⟩, Below.refl _ _⟩
  case round =>
    obtain ⟨n, hn, rfl, ho, hb⟩ := hrel
    obtain ⟨wq, rfl⟩ : ∃ wq : World, wq = wr := ⟨_, rfl⟩
    have hn8 : n ≤ 64 := by omega
    obtain ⟨zs, hzs⟩ : ∃ zs, zs = s.bytesL.take n := ⟨_, rfl⟩
    rw [← hzs] at ho
    have hzl : zs.length = n := by rw [hzs, List.length_take, St8.bytesL_length]; omega
    have HN := hid hn; have HB := hid hb; have HZS := hid hzs; have HZL := hid hzl; have HO := hid ho
    have hszq := hb.size
    clear hn hb hzs hzl ho
    by_cases hlt : n < 64
    · have hni : (n : Int) < 64 := by omega
      have hn0 : (0 : Int) ≤ (n : Int) := by omega
      clear hexit
      obtain ⟨A5, c5, rfl, hS5⟩ := own_sl HO.out
      have hrv := HRS.out.keep (HB.out.block gh HRS.out.lt)
      obtain ⟨q, hq⟩ : ∃ q, q = n / 8 := ⟨_, rfl⟩
      obtain ⟨m, hm⟩ : ∃ m, m = n % 8 := ⟨_, rfl⟩
      obtain ⟨d, hd⟩ : ∃ d, d = 7 - m := ⟨_, rfl⟩
      have hq8 : q < 8 := by omega
      have hq0 : (0 : Int) ≤ (q : Int) := by omega
      have hqi : (q : Int) < 8 := by omega
      obtain ⟨x, hx⟩ : ∃ x, x = s.list.getD q 0 := ⟨_, rfl⟩
      have hxl : x < 18446744073709551616 := by rw [hx]; exact listL_lt s HS.out q
      have hcx : wq.cell? ⟨gh, q, none⟩ = some (.int .u64 (x : Int)) := hrv.cell (by rw [hx, List.getD_eq_getElem?_getD, List.getElem?_eq_getElem (by simpa using hq8)]; rfl)
      have g0 : Int.tdiv (n : Int) 8 = (q : Int) := by rw [hq]; exact (Int.ofNat_tdiv n 8).symm
      have g1 : (n : Int) / 8 = (q : Int) := by omega
      have g2 : Int.tmod (n : Int) 8 = (m : Int) := by rw [hm]; exact (Int.ofNat_tmod n 8).symm
      have g3 : (n : Int) % 8 = (m : Int) := by omega
      have g4 : IntKind.i64.wrap (7 - (m : Int)) = (d : Int) := by rw [show (7 : Int) - (m : Int) = (d : Int) by omega]; exact IntWalk.i64_in _ (by omega)
      have g5 : (7 : Int) - (m : Int) = (d : Int) := by omega
      have g6 : IntKind.i64.wrap (q : Int) = (q : Int) := IntWalk.i64_in _ (by omega)
      have hd7 : d ≤ 7 := by omega
      have HX := hid hx; have HXL := hid hxl; have HQ := hid hq; have HM := hid hm; have HD := hid hd
      clear hrv hx hxl hS5 hq hm hd
      go_wp2
      go_loopg [32, 33] d (fun g y i wr => ∃ k Y : Nat, k + g = d ∧ i = .int .i64 (k : Int) ∧ y = .int .u64 (Y : Int) ∧ Y = x / 256 ^ k ∧ wr = wq)
      case atStart => exact ⟨0, x, by omega, rfl, rfl, by rw [Nat.pow_zero, Nat.div_one], rfl⟩
      case round =>
        obtain ⟨k, Y, hk, rfl, rfl, hY, rfl⟩ := hrel
        have hYl : Y < 18446744073709551616 := by rw [hY]; exact Nat.lt_of_le_of_lt (Nat.div_le_self _ _) HXL.out
        have hkd : k ≤ d := by omega
        have HK := hid hk; have HY := hid hY
        clear hk hY
        by_cases hlk : k < d
        · have hki : (k : Int) < (d : Int) := by omega
          have hk0 : (0 : Int) ≤ (k : Int) := by omega
          obtain ⟨Y2, hY2⟩ : ∃ y, y = Y / 256 := ⟨_, rfl⟩
          have e1 : IntKind.u64.wrap ((Y : Int) / 256) = (Y2 : Int) := by rw [IntKind.wrap_u64]; omega
          have hnext : Y2 = x / 256 ^ (k + 1) := by rw [hY2, HY.out, Nat.pow_succ, Nat.div_div_eq_div_mul]
          have HNX := hid hnext
          clear hY2 hYl hnext
          go_wp2
          have hk := HK.out
          go_roundg (d - k - 1)
          case measure => omega
          case rel => exact ⟨k + 1, Y2, by omega, by go_num, rfl, HNX.out, rfl⟩
        · obtain rfl : k = d := by omega
          have hki : ¬ (k : Int) < (k : Int) := by omega
          obtain ⟨b, hb⟩ : ∃ b, b = Y % 256 := ⟨_, rfl⟩
          have e1 : Int.tmod (Y : Int) 256 = (b : Int) := by rw [hb]; exact (Int.ofNat_tmod Y 256).symm
          have e2 : (Y : Int) % 256 = (b : Int) := by omega
          have e3 : (b : Int) % 256 = (b : Int) := by omega
          have hbyte : (b : Int) = (((s.bytesL.getD n 0).toNat : Nat) : Int) := by
            rw [bytesL_getD s n hlt, ← HQ.out, ← HM.out, ← HD.out, ← HX.out, ← HY.out, hb, UInt8.toNat_ofNat']
          have HBY := hid hbyte
          have hzb : zs.length ≤ 64 := by rw [HZL.out]; exact hn8
          clear hb hYl hbyte HK
          have HO2 := hid (World.ownsRow.alloc HO.out (.cells #[.int .u8 (b : Int)] 5))
          go_wp2_with (at_builtin; go_loud (refine wpList_append_lie rfl (.tmp 347) (.tmp 351) 22 rfl w0.heap.size 5 (.int .u8 0) 1 Tryz.underlying22 infoU8 rfl rfl HO2.out rfl rfl (Lie.new1 _ _ _) ?l0 ?l1 ?l2 ?l3 ?_))
          case l0 => intros; first | rfl | (rename_i hu; simp at hu; subst hu; rfl)
          case l1 => (try rw [List.length_singleton]); unfold maxLen; omega
          case l2 => (try rw [List.length_singleton]); omega
          case l3 => first | omega | (simp; omega) | (simp; done)
          intro v5 w5 hown5 hg5 _
          have hO5 : OwnB w5 w0.heap.size v5 (s.bytesL.take (n + 1)) := by
            rw [bytesL_take s n hlt, ← HZS.out]
            exact own_snoc hown5 (by simp) HBY.out
          have hB5 : Below w0.heap.size w0 w5 := (HB.out.alloc HB.out.size _).grown hg5 (by simp; omega) (fun q h => own_lt HO2.out q h)
          have HO5 := hid hO5; have HB5 := hid hB5
          clear hown5 hg5 hO5 hB5 HO2
          go_wp2
          have hn := HN.out
          go_roundg (64 - n - 1)
          case measure => omega
          case rel => exact ⟨n + 1, by omega, by go_num, HO5.out, HB5.out⟩
    · obtain rfl : n = 64 := by omega
      have hni : ¬ ((64 : Nat) : Int) < 64 := by omega
      have hbe : zs = s.bytesL := by rw [HZS.out]; rfl
      subst hbe
      clear HZS HZL
      go_wp2
      exact hexit _ wq _ _ _ _ _ _ _ _ _ _ _ _ _ _ _ _ _ _ _ _ _ _ _ _ _ _ _ HO.out HB.out
end Go.Proofs.YtheamlhhfkaknaaGreatDoor
namespace Go.Proofs.YtheamlhhfkaknaaGreatDoor
open Go.RowKit
set_option linter.unusedVariables false
set_option linter.unusedSimpArgs false
set_option maxRecDepth 100000 in
set_option maxHeartbeats 4000000 in
theorem sum3_any (A : Option Addr) (all : List UInt8) (c : Nat) (w : World) (hn : all.length ≤ 1048576) (hA : Sq w w.heap.size A c (bvs all)) :
    Calls Tryz.prog 33 #[.slice A all.length c] w fun e w' => ∃ v, e = .returned v ∧ OwnB w' w.heap.size v (longB all) ∧ Below w.heap.size w w' := by
  have hAl1 : Lie (w.alloc (.cells #[] 5)) w.heap.size A (bvs all) := hA.lie.alloc (Nat.le_refl _) _
  have HAL1 := hid hAl1
  clear hA hAl1
  go_enter Tryz.func33, Tryz.ntmps33
  go_wp2_with (at_builtin; refine wpList_append_lie rfl (.tmp 34) (.tmp 35) 22 rfl w.heap.size 5 (.int .u8 0) 1 Tryz.underlying22 infoU8 rfl rfl (emptyR_row _ _ (k := w.heap.size) rfl (Nat.le_refl _)) (bvs_length all) rfl HAL1.out (bvs_one all) ?d4 ?d5 ?d6 ?_)
  case d4 => unfold maxLen; omega
  case d5 => omega
  case d6 => simp
  intro v2 w2 hown2 hg2 _
  have hO2 : OwnB w2 w.heap.size v2 all := by simpa [OwnB] using hown2
  have hB02 : Below w.heap.size w w2 := ((Below.refl _ _).alloc (Nat.le_refl _) _).grown hg2 (by simp) (fun q h => by simp [Value.ownBlock] at h; omega)
  have hsz2 := hB02.size
  have HO2 := hid hO2; have HB02 := hid hB02
  obtain ⟨A2', c2', rfl, _⟩ := own_sl hO2
  have HO2' := hid (World.ownsRow.alloc hO2 (.cells #[.int .u8 128] 5))
  clear hown2 hg2 hO2 hB02 HAL1
  go_wp2_with (at_builtin; go_loud (refine wpList_append_lie rfl (.tmp 36) (.tmp 37) 22 rfl w.heap.size 5 (.int .u8 0) 1 Tryz.underlying22 infoU8 rfl rfl HO2'.out rfl rfl (Lie.new1 _ _ _) ?d7 ?d8 ?d9 ?d10 ?_))
  case d7 => intro u hu; simp at hu; subst hu; rfl
  case d8 => rw [List.length_singleton]; unfold maxLen; omega
  case d9 => rw [List.length_singleton]; omega
  case d10 => simp; omega
  intro v3 w3 hown3 hg3 _
  have hO3 : OwnB w3 w.heap.size v3 (all ++ [128]) := own_snoc hown3 (by simp) rfl
  have hB03 : Below w.heap.size w w3 := (HB02.out.alloc HB02.out.size _).grown hg3 (by simp; omega) (fun q h => own_lt HO2'.out q h)
  have HO3 := hid hO3; have HB03 := hid hB03
  clear hown3 hg3 hO3 hB03 HO2' HO2 HB02
  go_wp2
  go_loopg [3] (padZL all.length) (fun g u wr => ∃ j : Nat, j + g = padZL all.length ∧ OwnB wr w.heap.size u (all ++ [128] ++ List.replicate j 0) ∧ Below w.heap.size w wr)
  case atStart => exact ⟨0, by omega, by simpa using HO3.out, HB03.out⟩
  case round =>
    clear HO3 HB03
    obtain ⟨j, hj, ho, hb⟩ := hrel
    have hzb : padZL all.length < 128 := by unfold padZL; omega
    obtain ⟨ys, hys⟩ : ∃ ys : List UInt8, ys = all ++ [128] ++ List.replicate j 0 := ⟨_, rfl⟩
    rw [← hys] at ho
    have hyl : ys.length = all.length + 1 + j := by rw [hys]; simp; omega
    have hyb : ys.length ≤ 1099511627776 + 129 := by omega
    have hL0 : (0 : Int) ≤ (ys.length : Int) := by omega
    have HYL := hid hyl; have HYS := hid hys; have HJ := hid hj; have HB := hid hb
    obtain ⟨A3, c3, rfl, _⟩ := own_sl ho
    have HO := hid ho
    have hszr := hb.size
    clear hb
    by_cases hlt : j < padZL all.length
    · have ht : (((ys.length : Int) % 128) != 112) = true := by
        rw [bne_iff_ne]
        unfold padZL at hlt
        omega
      clear hj hyl hys
      have HO2' := hid (World.ownsRow.alloc ho (.cells #[.int .u8 0] 5))
      clear ho
      go_wp2_with (at_builtin; refine wpList_append_lie rfl (.tmp 43) (.tmp 44) 22 rfl w.heap.size 5 (.int .u8 0) 1 Tryz.underlying22 infoU8 rfl rfl HO2'.out rfl rfl (Lie.new1 _ _ _) ?f0 ?f1 ?f2 ?f3 ?_)
      case f0 => intro u hu; simp at hu; subst hu; rfl
      case f1 => rw [List.length_singleton]; unfold maxLen; omega
      case f2 => rw [List.length_singleton]; omega
      case f3 => simp; omega
      intro v5 w5 hown5 hg5 _
      have hO5 : OwnB w5 w.heap.size v5 (all ++ [128] ++ List.replicate (j + 1) 0) := by
        rw [List.replicate_succ', ← List.append_assoc, ← HYS.out]
        exact own_snoc hown5 (by simp) rfl
      have hB5 : Below w.heap.size w w5 := (HB.out.alloc HB.out.size _).grown hg5 (by simp; omega) (fun q h => own_lt HO2'.out q h)
      have HO5 := hid hO5; have HB5 := hid hB5
      clear hown5 hg5 hO5 hB5 HO2'
      go_wp2
      have hj := HJ.out
      go_roundg (padZL all.length - j - 1)
      case measure => omega
      case rel => exact ⟨j + 1, by omega, HO5.out, HB5.out⟩
    · obtain rfl : j = padZL all.length := by omega
      have ht : (((ys.length : Int) % 128) != 112) = false := by
        rw [bne_eq_false_iff_eq]
        unfold padZL at hyl
        omega
      have hn8 : 8 * all.length < 18446744073709551616 := by omega
      have hsum : (ys.length + 16) % 128 = 0 := by
        unfold padZL at hyl
        omega
      have HSUM := hid hsum
      clear hj hyl hys hsum
      obtain ⟨M, hM⟩ : ∃ M, M = 8 * all.length := ⟨_, rfl⟩
      have hwl : IntKind.u64.wrap (all.length : Int) = (all.length : Int) := by rw [IntKind.wrap_u64]; omega
      have hw8 : IntKind.u64.wrap ((all.length : Int) * 8) = (M : Int) := by rw [IntKind.wrap_u64]; omega
      have hMl : M < 18446744073709551616 := by omega
      have HMM := hid hM; have HML := hid hMl
      clear hM hMl hn8
      go_wp2
      go_loopg [3, 5] 16 (fun g u i wr => ∃ (k : Nat) (pre : List UInt8), k + g = 16 ∧ i = .int .i64 (k : Int) ∧ pre ++ beBytes (16 - k) M = beBytes 16 M ∧ pre.length = k ∧ OwnB wr w.heap.size u (ys ++ pre) ∧ Below w.heap.size w wr)
      case atStart => exact ⟨0, [], rfl, rfl, rfl, rfl, by simpa using HO.out, HB.out⟩
      case round =>
        clear HO HB ho
        obtain ⟨k, pre, hk, rfl, hpre, hpl, ho, hb⟩ := hrel
        obtain ⟨wo, rfl⟩ : ∃ wo : World, wo = wr := ⟨_, rfl⟩
        have hk8 : k ≤ 16 := by omega
        obtain ⟨zs, hzs⟩ : ∃ zs : List UInt8, zs = ys ++ pre := ⟨_, rfl⟩
        rw [← hzs] at ho
        have hzl : zs.length = ys.length + k := by rw [hzs, List.length_append, hpl]
        have hzb2 : zs.length ≤ 1099511627776 + 160 := by omega
        have HP := hid hpre; have HK := hid hk; have HB := hid hb; have HZS := hid hzs; have HZL := hid hzl; have HPL := hid hpl
        obtain ⟨A5, c5, rfl, hS5⟩ := own_sl ho
        have HO := hid ho; have HS5 := hid hS5.sq
        have hszr2 := hb.size
        clear hpre hk hb hzs hzl hpl hS5 ho
        by_cases hlt8 : k < 16
        · have hki : (k : Int) < 16 := by omega
          have hk0 : (0 : Int) ≤ (k : Int) := by omega
          obtain ⟨d, hd⟩ : ∃ d, d = 15 - k := ⟨_, rfl⟩
          have g4 : IntKind.i64.wrap (15 - (k : Int)) = (d : Int) := by rw [show (15 : Int) - (k : Int) = (d : Int) by omega]; exact IntWalk.i64_in _ (by omega)
          have g5 : (15 : Int) - (k : Int) = (d : Int) := by omega
          have hd15 : d ≤ 15 := by omega
          have HD := hid hd
          clear hd
          go_wp2
          go_loopg [6, 7] d (fun g y i wr => ∃ q Y : Nat, q + g = d ∧ i = .int .i64 (q : Int) ∧ y = .int .u64 (Y : Int) ∧ Y = M / 256 ^ q ∧ wr = wo)
          case atStart => exact ⟨0, M, by omega, rfl, rfl, by rw [Nat.pow_zero, Nat.div_one], rfl⟩
          case round =>
            obtain ⟨q, Y, hq, rfl, rfl, hY, rfl⟩ := hrel
            have hYl : Y < 18446744073709551616 := by rw [hY]; exact Nat.lt_of_le_of_lt (Nat.div_le_self _ _) HML.out
            have hqd : q ≤ d := by omega
            have HQ := hid hq; have HY := hid hY
            clear hq hY
            by_cases hlk : q < d
            · have hqi : (q : Int) < (d : Int) := by omega
              have hq0 : (0 : Int) ≤ (q : Int) := by omega
              obtain ⟨Y2, hY2⟩ : ∃ y, y = Y / 256 := ⟨_, rfl⟩
              have e1 : IntKind.u64.wrap ((Y : Int) / 256) = (Y2 : Int) := by rw [IntKind.wrap_u64]; omega
              have hnext : Y2 = M / 256 ^ (q + 1) := by rw [hY2, HY.out, Nat.pow_succ, Nat.div_div_eq_div_mul]
              have HNX := hid hnext
              clear hY2 hYl hnext
              go_wp2
              have hq := HQ.out
              go_roundg (d - q - 1)
              case measure => omega
              case rel => exact ⟨q + 1, Y2, by omega, by go_num, rfl, HNX.out, rfl⟩
            · obtain rfl : q = d := by omega
              have hqi : ¬ (q : Int) < (q : Int) := by omega
              obtain ⟨b, hb⟩ : ∃ b, b = Y % 256 := ⟨_, rfl⟩
              have e1 : Int.tmod (Y : Int) 256 = (b : Int) := by rw [hb]; exact (Int.ofNat_tmod Y 256).symm
              have e2 : (Y : Int) % 256 = (b : Int) := by omega
              have e3 : (b : Int) % 256 = (b : Int) := by omega
              have hbyte : (b : Int) = (((UInt8.ofNat (M / 256 ^ (15 - k))).toNat : Nat) : Int) := by
                rw [← HD.out, ← HY.out, hb, UInt8.toNat_ofNat']
              have HBY := hid hbyte
              clear hb hYl hbyte HQ
              have HO2' := hid (World.ownsRow.alloc HO.out (.cells #[.int .u8 (b : Int)] 5))
              go_wp2_with (at_builtin; refine wpList_append_lie rfl (.tmp 63) (.tmp 67) 22 rfl w.heap.size 5 (.int .u8 0) 1 Tryz.underlying22 infoU8 rfl rfl HO2'.out rfl rfl (Lie.new1 _ _ _) ?h0 ?h1 ?h2 ?h3 ?_)
              case h0 => intros; first | rfl | (rename_i hu; simp at hu; subst hu; rfl)
              case h1 => (try rw [List.length_singleton]); unfold maxLen; omega
              case h2 => (try rw [List.length_singleton]); omega
              case h3 => first | omega | (simp; omega) | (simp; done)
              intro v5 w5 hown5 hg5 _
              have hO5 : OwnB w5 w.heap.size v5 (ys ++ (pre ++ [UInt8.ofNat (M / 256 ^ (15 - k))])) := by
                rw [← List.append_assoc, ← HZS.out]
                exact own_snoc hown5 (by simp) HBY.out
              have hB5 : Below w.heap.size w w5 := (HB.out.alloc HB.out.size _).grown hg5 (by simp; omega) (fun q h => own_lt HO2'.out q h)
              have hpn : (pre ++ [UInt8.ofNat (M / 256 ^ (15 - k))]) ++ beBytes (16 - (k + 1)) M = beBytes 16 M := by
                rw [← HP.out, show 16 - k = (15 - k) + 1 by omega, beBytes, show 16 - (k + 1) = 15 - k by omega]; simp
              have HO5 := hid hO5; have HB5 := hid hB5; have HPN := hid hpn
              clear hown5 hg5 hO5 hB5 HO2' hpn
              go_wp2
              have hk := HK.out
              go_roundg (16 - k - 1)
              case measure => omega
              case rel => exact ⟨k + 1, _, by omega, by go_num, HPN.out, by rw [List.length_append, HPL.out]; rfl, HO5.out, HB5.out⟩
        · obtain rfl : k = 16 := by omega
          have hpe : pre = beBytes 16 M := by have := HP.out; simpa [beBytes] using this
          have hki : ¬ ((16 : Nat) : Int) < 16 := by omega
          have hpos : 0 < zs.length := by have := HZL.out; omega
          obtain ⟨gm, cm, hvm, hgm1, hgm2, hcm1, hcm2⟩ := ownU_form HO.out hpos
          simp only [Value.slice.injEq, true_and] at hvm
          obtain ⟨rfl, rfl⟩ := hvm
          have hLt : Lie wo wo.heap.size (some ⟨gm, 0, none⟩) (bvs zs) := HS5.out.lie
          have hzM : zs = padNL all all.length (beBytes 16 (8 * all.length)) := by rw [HZS.out, hpe, HYS.out, HMM.out]; rfl
          obtain ⟨nb, hnb⟩ : ∃ nb, zs.length = 128 * nb := ⟨zs.length / 128, by have := HZL.out; have := HSUM.out; omega⟩
          have hzs40' : zs.length < 1099511627900 := by have := HZL.out; have := HYL.out; omega
          have HLT := hid hLt; have HZM := hid hzM; have HNB := hid hnb
          have HPR := hid (Primes_any 80 wo (by omega))
          clear hLt hzM hnb HO HS5 HZS HZL HPL hlt8 HP HK hpe HSUM HYS HYL HJ hlt ht hL0 hzb hyb
          clear hzb2 hwl hw8 HML HMM
          go_wp2_with fail
          refine HPR.out.mono ?_
          rintro e w2 ⟨v2, rfl, ho2, hb2⟩
          obtain ⟨PR, hPR⟩ : ∃ P, P = (prs 410).take 80 := ⟨_, rfl⟩
          rw [← hPR] at ho2
          have hpl : PR.length = 80 := by rw [hPR, List.length_take, prs_410]; rfl
          have hpb : ∀ j, PR.getD j 0 ≤ 1048576 := fun j => by
            by_cases hj : j < PR.length
            · rw [List.getD_eq_getElem?_getD, List.getElem?_eq_getElem hj]
              have h : ∀ x ∈ PR, x ≤ 1048576 := fun x hx => by
                rw [hPR] at hx
                have := prs_lt 410 x (List.mem_of_mem_take hx)
                omega
              exact h _ (List.getElem_mem hj)
            · rw [List.getD_eq_getElem?_getD, List.getElem?_eq_none (by omega)]; exact Nat.zero_le _
          obtain ⟨AP, cP, rfl, hSP⟩ := own_sl ho2
          rw [hpl]
          have HPS2 := hid hSP.sq; have HPL := hid hpl; have HPB := hid hpb; have HPRE := hid hPR; have HB2 := hid hb2
          clear ho2 hb2 hPR hpl hpb hSP HPR
          go_wp2
          refine hs3_loop AP cP PR w2 _ _ _ _ _ _ _ _ _ _ _ _ _ _ _ _ _ _ _ _ _ _ _ _ _ _ _ _ _ _ _ _ _ _ _ _ _ _ _ _ _ _ _ _ _ _ _ _ _ _ _ _ _ _ _ _ _ _ _ _ _ _ _ _ _ _ _ _ _ _ _ _ _ _ _ _ _ _ _ _ _ _ _ _ _ _ _ _ _ _ _ _ _ _ _ _ _ _ _ _ _ _ _ _ _ _ _ _ _ _ _ _ _ _ _ _ _ _ _ _ _ _ _ _ _ _ _ _ _ _ _ _ _ _ _ _ _ _ _ _ _ _ _ _ _ _ _ _ _ _ _ _ _ _ _ _ _ _ _ _ _ _ _ _ _ _ _ _ _ _ _ _ _ _ _ _ _ _ _ _ _ _ _ _ _ _ _ _ _ _ _ _ _ _ _ _ _ _ _ _ _ _ _ _ _ _ _ _ _ _ _ _ _ _ _ _ _ _ _ _ _ _ _ _ _ _ _ _ _ _ _ _ _ _ _ _ _ _ _ _ _ _ _ _ _ _ _ _ _ _ _ _ _ _ _ _ _ _ _ _ _ _ _ _ _ _ _ _ _ _ _ _ _ _ _ _ _ _ _ _ _ _ _ _ _ _ _ _ _ _ _ _ _ _ _ _ _ _ _ _ _ _ _ _ _ _ _ _ _ _ _ _ _ _ _ _ _ _ _ _ _ _ _ _ _ _ _ _ _ _ _ _ _ _ _ _ _ _ _ _ _ _ _ _ _ _ _ _ _ _ _ HPL.out HPB.out HPS2.out ?_
          intro vh w3 u11 u70 u71 u72 u73 u74 u75 u76 u77 u78 u79 u80 u81 hoh hb3
          rw [← List.map_take, HPRE.out, List.take_take, show min 8 80 = 8 from rfl, rootsL_iv] at hoh
          obtain ⟨gh, ch, rfl, hgh, hghl, hch, hch2⟩ := ownU_form hoh (by rw [St8.list_length]; omega)
          rw [St8.list_length] at hch ⊢
          have HRU := hid (RowU.of_own hoh); have HB3 := hid hb3
          have HPS3 := hid ((HPS2.out.below hb3).more hb3.size)
          have hsz3 := hb3.size; have hsz2 := HB2.out.size
          clear hoh hb3 HPS2
          go_wp2
          refine ks3_loop AP cP PR w3 _ _ _ _ _ _ _ _ _ _ _ _ _ _ _ _ _ _ _ _ _ _ _ _ _ _ _ _ _ _ _ _ _ _ _ _ _ _ _ _ _ _ _ _ _ _ _ _ _ _ _ _ _ _ _ _ _ _ _ _ _ _ _ _ _ _ _ _ _ _ _ _ _ _ _ _ _ _ _ _ _ _ _ _ _ _ _ _ _ _ _ _ _ _ _ _ _ _ _ _ _ _ _ _ _ _ _ _ _ _ _ _ _ _ _ _ _ _ _ _ _ _ _ _ _ _ _ _ _ _ _ _ _ _ _ _ _ _ _ _ _ _ _ _ _ _ _ _ _ _ _ _ _ _ _ _ _ _ _ _ _ _ _ _ _ _ _ _ _ _ _ _ _ _ _ _ _ _ _ _ _ _ _ _ _ _ _ _ _ _ _ _ _ _ _ _ _ _ _ _ _ _ _ _ _ _ _ _ _ _ _ _ _ _ _ _ _ _ _ _ _ _ _ _ _ _ _ _ _ _ _ _ _ _ _ _ _ _ _ _ _ _ _ _ _ _ _ _ _ _ _ _ _ _ _ _ _ _ _ _ _ _ _ _ _ _ _ _ _ _ _ _ _ _ _ _ _ _ _ _ _ _ _ _ _ _ _ _ _ _ _ _ _ _ _ _ _ _ _ _ _ _ _ _ _ _ _ _ _ _ _ _ _ _ _ _ _ _ _ _ _ _ _ _ _ _ _ _ _ _ _ _ _ _ _ _ _ _ _ _ _ _ _ _ _ _ _ _ _ _ _ HPL.out HPB.out HPS3.out ?_
          intro vk w4 u12 u82 u83 u84 u85 u86 u87 u88 u89 u90 u91 u92 u93 hok hb4
          rw [← List.map_take, HPRE.out, List.take_take, show min 80 80 = 80 from rfl, rootsL_k] at hok
          obtain ⟨gk, ck, rfl, hgk, hgkl, hck, hck2⟩ := ownU_form hok (by rw [kTabL_length]; omega)
          rw [kTabL_length] at hck ⊢
          have hkl : Lie w4 w4.heap.size (some ⟨gk, 0, none⟩) (uvs kTabL) := Lie.of_own hok
          have hks : Sq w4 w4.heap.size (some ⟨gk, 0, none⟩) ck (uvs kTabL) := hkl.sq (by rw [uvs_length, kTabL_length]; exact hck) hck2
          have HKS := hid hks
          have hb24 : Below wo.heap.size wo w4 := HB2.out.trans ((HB3.out.trans (hb4.mono HB3.out.size)).mono HB2.out.size)
          have HRU4 := hid (HRU.out.keep (hb4.block gh hghl))
          have HLT4 := hid ((HLT.out.below hb24).more hb24.size)
          have HB4 := hid (HB.out.trans (hb24.mono HB.out.size))
          clear hok hb4 hb24 hkl hks HRU HLT HB HB3 HB2 HPS3 HPL HPB HPRE
          go_wp2
          refine blocks3_loop (some ⟨gk, 0, none⟩) ck gh ch gm _ nb kTabL ivL zs w4 _ _ _ _ _ _ _ _ _ _ _ _ _ _ _ _ _ _ _ _ _ _ _ _ _ _ _ _ _ _ _ _ _ _ _ _ _ _ _ _ _ _ _ _ _ _ _ _ _ _ _ _ _ _ _ _ _ _ _ _ _ _ _ _ _ _ _ _ _ _ _ _ _ _ _ _ _ _ _ _ _ _ _ _ _ _ _ _ _ _ _ _ _ _ _ _ _ _ _ _ _ _ _ _ _ _ _ _ _ _ _ _ _ _ _ _ _ _ _ _ _ _ _ _ _ _ _ _ _ _ _ _ _ _ _ _ _ _ _ _ _ _ _ _ _ _ _ _ _ _ _ _ _ _ _ _ _ _ _ _ _ _ _ _ _ _ _ _ _ _ _ _ _ _ _ _ _ _ _ _ _ _ _ _ _ _ _ _ _ _ _ _ _ _ _ _ _ _ _ _ _ _ _ _ _ _ _ _ _ _ _ _ _ _ _ _ _ _ _ _ _ _ _ _ _ _ _ _ _ _ _ _ _ _ _ _ _ _ _ _ _ _ _ _ _ _ _ _ _ _ _ _ _ _ _ _ _ _ _ _ _ _ _ _ _ _ _ _ _ _ _ _ _ _ _ _ _ _ _ _ _ _ _ _ _ _ _ _ _ _ _ _ _ _ _ _ _ _ _ _ _ _ _ _ _ _ _ _ _ _ _ _ _ _ _ _ _ _ _ _ _ _ _ _ _ _ _ _ _ _ _ _ _ _ _ _ _ _ _ _ _ _ _ _ _ _ _ _ _ _ ?hpan1 ivL_ok rfl kTabL_lt HNB.out ?hz40 hcm1 hch (by omega) HLT4.out HKS.out (fun _ b o sp e => by simp at e; omega) HRU4.out ?_
          case hpan1 => exact fun _ _ _ _ _ h => h
          case hz40 => exact hzs40'
          intro w5 u13 u14 u15 u16 u17 u18 u19 u20 u21 u22 u23 u24 u25 u26 u27 u28 u29 u94 u95 u96 u97 u98 u99 u100 u101 u102 u103 u104 u105 u106 u107 u108 u109 u110 u111 u112 u113 u114 u115 u116 u117 u118 u119 u120 u121 u122 u123 u124 u125 u126 u127 u128 u129 u130 u131 u132 u133 u134 u135 u136 u137 u138 u139 u140 u141 u142 u143 u144 u145 u146 u147 u148 u149 u150 u151 u152 u153 u154 u155 u156 u157 u158 u159 u160 u161 u162 u163 u164 u165 u166 u167 u168 u169 u170 u171 u172 u173 u174 u175 u176 u177 u178 u179 u180 u181 u182 u183 u184 u185 u186 u187 u188 u189 u190 u191 u192 u193 u194 u195 u196 u197 u198 u199 u200 u201 u202 u203 u204 u205 u206 u207 u208 u209 u210 u211 u212 u213 u214 u215 u216 u217 u218 u219 u220 u221 u222 u223 u224 u225 u226 u227 u228 u229 u230 u231 u232 u233 u234 u235 u236 u237 u238 u239 u240 u241 u242 u243 u244 u245 u246 u247 u248 u249 u250 u251 u252 u253 u254 u255 u256 u257 u258 u259 u260 u261 u262 u263 u264 u265 u266 u267 u268 u269 u270 u271 u272 u273 u274 u275 u276 u277 u278 u279 u280 u281 u282 u283 u284 u285 u286 u287 u288 u289 u290 u291 u292 u293 u294 u295 u296 u297 u298 u299 u300 u301 u302 u303 u304 u305 u306 u307 u308 u309 u310 u311 u312 u313 u314 u315 u316 u317 u318 u319 u320 u321 u322 u323 u324 u325 u326 u327 u328 hru5 hg5
          have hB5 : Below w.heap.size w w5 := HB4.out.grown hg5 HB4.out.size (fun q h => by injection h with h; omega)
          have HRU5 := hid hru5; have HB5 := hid hB5
          clear hru5 hg5 hB5 HLT4 HRU4 HB4 HKS
          go_wp2
          refine out3_loop gh ch (blocksL kTabL nb ivL zs) w5 _ _ _ _ _ _ _ _ _ _ _ _ _ _ _ _ _ _ _ _ _ _ _ _ _ _ _ _ _ _ _ _ _ _ _ _ _ _ _ _ _ _ _ _ _ _ _ _ _ _ _ _ _ _ _ _ _ _ _ _ _ _ _ _ _ _ _ _ _ _ _ _ _ _ _ _ _ _ _ _ _ _ _ _ _ _ _ _ _ _ _ _ _ _ _ _ _ _ _ _ _ _ _ _ _ _ _ _ _ _ _ _ _ _ _ _ _ _ _ _ _ _ _ _ _ _ _ _ _ _ _ _ _ _ _ _ _ _ _ _ _ _ _ _ _ _ _ _ _ _ _ _ _ _ _ _ _ _ _ _ _ _ _ _ _ _ _ _ _ _ _ _ _ _ _ _ _ _ _ _ _ _ _ _ _ _ _ _ _ _ _ _ _ _ _ _ _ _ _ _ _ _ _ _ _ _ _ _ _ _ _ _ _ _ _ _ _ _ _ _ _ _ _ _ _ _ _ _ _ _ _ _ _ _ _ _ _ _ _ _ _ _ _ _ _ _ _ _ _ _ _ _ _ _ _ _ _ _ _ _ _ _ _ _ _ _ _ _ _ _ _ _ _ _ _ _ _ _ _ _ _ _ _ _ _ _ _ _ _ _ _ _ _ _ _ _ _ _ _ _ _ _ _ _ _ _ _ _ _ _ _ _ _ _ _ _ _ _ _ _ _ _ _ _ _ _ _ _ _ _ _ _ _ _ _ _ _ _ _ _ _ _ _ _ _ _ _ _ _ _ _ (blocksL_okay _ _ _ _ ivL_ok) hch HRU5.out ?_
          intro v6 w6 u31 u32 u33 u329 u330 u331 u332 u333 u334 u335 u336 u337 u338 u339 u340 u341 u342 u343 u344 u345 u346 u347 u348 u349 u350 u351 u352 ho6 hb6
          have hfin : OwnB w6 w.heap.size v6 (longB all) := by
            have h : longB all = (blocksL kTabL nb ivL zs).bytesL := by
              rw [longB_whole, ← HZM.out, HNB.out, Nat.mul_div_cancel_left _ (by omega)]
            rw [h]
            exact own_base ho6 HB5.out.size
          have HFIN := hid hfin; have HBF := hid (HB5.out.trans (hb6.mono HB5.out.size))
          clear ho6 hb6 hfin
          go_wp2
          go_ret
          exact ⟨_, rfl, HFIN.out, HBF.out⟩
end Go.Proofs.YtheamlhhfkaknaaGreatDoor
end
