/-
  Texts of this claim in one file: Ref02b, Ref02f, Ref01, Ref07a.
-/
import Derived.Test.YtpkmidaflnbobaaGreatDoorPk0
import Derived.Test.YtpkmidaflnbobaaGreatDoorPk1
import Derived.Test.YtpkmidaflnbobaaGreatDoorPk40
import Derived.Test.YtpkmidaflnbobaaGreatDoorPk41
import Derived.Test.YtpkmidaflnbobaaGreatDoorPk2
import Derived.Test.YtpkmidaflnbobaaGreatDoorPk3
import Derived.Test.YtpkmidaflnbobaaGreatDoorPk10
import Derived.Test.YtpkmidaflnbobaaGreatDoorPk12
import Derived.Test.YtpkmidaflnbobaaGreatDoorPk15
import Derived.Deep.RegionHeld3
import Derived.Test.YtpkmidaflnbobaaGreatDoorPk46
section
namespace Go.Proofs.YtpkmidaflnbobaaGreatDoor
section
open Go.RowKit
set_option linter.unusedVariables false
set_option linter.unusedSimpArgs false
set_option maxHeartbeats 400000 in
theorem turnR_any (x n : Nat) (w : World) (hx : x < 4294967296) (hn : n ≤ 32) :
    Calls Tryz.prog 119 #[.int .u64 (x : Int), .int .i64 (n : Int)] w fun e w' => e = .returned (.int .u64 ((rotr x n : Nat) : Int)) ∧ w = w' := by
  have HE := hid (turnN_eq x n hn)
  go_enter Tryz.func119, Tryz.ntmps119
  go_wp2
  go_loopg [0, 5] n (fun g a i wr => ∃ k : Nat, k + g = n ∧ i = .int .i64 (k : Int) ∧ a = .int .u64 ((turnN x k : Nat) : Int) ∧ turnN x k < 4294967296 ∧ wr = w)
  case atStart => exact ⟨0, by omega, rfl, rfl, hx, rfl⟩
  case round =>
    obtain ⟨k, hk, rfl, rfl, hl, rfl⟩ := hrel
    have HK := hid hk
    have hkn : k ≤ n := by omega
    have hnx : turnN x (k + 1) = turn1 (turnN x k) := rfl
    obtain ⟨y, hy⟩ : ∃ y, y = turnN x k := ⟨_, rfl⟩
    rw [← hy] at hl hnx ⊢
    have hl2 := turn1_lt y hl
    unfold turn1 at hnx hl2
    have HNX := hid hnx; have HL2 := hid hl2; have HY := hid hy
    clear hk hnx hl2 hy
    by_cases hlt : k < n
    · have hki : (k : Int) < (n : Int) := by omega
      go_wp2
      have hk := HK.out
      go_roundg (n - k - 1)
      case measure => omega
      case rel => exact ⟨k + 1, by omega, by go_num, by rw [HNX.out]; go_num, by rw [HNX.out]; exact HL2.out, rfl⟩
    · obtain rfl : k = n := by omega
      have hki : ¬ (k : Int) < (k : Int) := by omega
      clear HK
      go_wp2
      go_ret
      exact ⟨ret_int (by rw [HY.out, HE.out]), rfl⟩
set_option maxHeartbeats 400000 in
theorem shiftR_any (x n : Nat) (w : World) (hx : x < 18446744073709551616) (hn : n ≤ 64) :
    Calls Tryz.prog 120 #[.int .u64 (x : Int), .int .i64 (n : Int)] w fun e w' => e = .returned (.int .u64 ((x / 2 ^ n : Nat) : Int)) ∧ w = w' := by
  go_enter Tryz.func120, Tryz.ntmps120
  go_wp2
  go_loopg [0, 5] n (fun g a i wr => ∃ k y : Nat, k + g = n ∧ i = .int .i64 (k : Int) ∧ a = .int .u64 (y : Int) ∧ y = x / 2 ^ k ∧ wr = w)
  case atStart => exact ⟨0, x, by omega, rfl, rfl, by simp, rfl⟩
  case round =>
    obtain ⟨k, y, hk, rfl, rfl, hy, rfl⟩ := hrel
    have hyl : y < 18446744073709551616 := by rw [hy]; exact Nat.lt_of_le_of_lt (Nat.div_le_self _ _) hx
    have HK := hid hk; have HY := hid hy
    have hkn : k ≤ n := by omega
    clear hk hy
    by_cases hlt : k < n
    · have hki : (k : Int) < (n : Int) := by omega
      go_wp2
      have hk := HK.out
      go_roundg (n - k - 1)
      case measure => omega
      case rel => exact ⟨k + 1, y / 2, by omega, by go_num, by go_num, by rw [HY.out, Nat.pow_succ, Nat.div_div_eq_div_mul], rfl⟩
    · obtain rfl : k = n := by omega
      have hki : ¬ (k : Int) < (k : Int) := by omega
      clear HK
      go_wp2
      go_ret
      exact ⟨ret_int (by rw [HY.out]; simp), rfl⟩
end
section
open Go.RowKit
set_option linter.unusedVariables false
set_option linter.unusedSimpArgs false
theorem infoU64 : (Tryz.prog.info? 53).map (fun i => (i.zero, i.size, i.bytes)) = some (some (.int .u64 0), 1, 8) := by kernel_rfl
/-- Block g holds the words xs from its beginning on. -/
def RowU (w : World) (g : Nat) (xs : List Nat) : Prop := ∃ cur : Array Value, w.heap[g]? = some (.cells cur 53 (0, 0)) ∧ ∀ (j x : Nat), xs[j]? = some x → cur[j]? = some (.int .u64 (x : Int))
section
variable {w w' : World} {g : Nat} {xs : List Nat}
theorem RowU.lt (h : RowU w g xs) : g < w.heap.size := by obtain ⟨cur, h1, _⟩ := h; exact block_lt h1
theorem RowU.keep (h : RowU w g xs) (hk : w'.heap[g]? = w.heap[g]?) : RowU w' g xs := by obtain ⟨cur, h1, h2⟩ := h; exact ⟨cur, hk.trans h1, h2⟩
theorem RowU.cell (h : RowU w g xs) {j x : Nat} (hx : xs[j]? = some x) : w.cell? ⟨g, j, none⟩ = some (.int .u64 (x : Int)) := by obtain ⟨cur, h1, h2⟩ := h; exact cell_of h1 j _ (h2 j x hx)
theorem RowU.frz (h : RowU w g xs) (j : Nat) : w.frozen? ⟨g, j, none⟩ = false := by obtain ⟨cur, h1, h2⟩ := h; exact frozen_of_row _ _ _ _ _ h1
theorem RowU.set (h : RowU w g xs) (j y : Nat) (hj : j < xs.length) : RowU (w.setCell ⟨g, j, none⟩ (.int .u64 (y : Int))) g (xs.set j y) := by
  obtain ⟨cur, h1, h2⟩ := h
  have hc : j < cur.size := (Array.getElem?_eq_some_iff.1 (h2 j _ (List.getElem?_eq_getElem hj))).1
  refine ⟨_, block_set h1 j _, fun i x hx => ?_⟩
  rw [Array.getElem?_setIfInBounds]
  by_cases e : j = i
  · subst e
    rw [List.getElem?_set_self hj] at hx
    injection hx with hx
    rw [if_pos rfl, if_pos hc, hx]
  · rw [List.getElem?_set_ne e] at hx
    rw [if_neg e]; exact h2 i x hx
theorem RowU.of_own {base n c : Nat} (h : w.ownsRow base 53 1 (.slice (some ⟨g, 0, none⟩) n c) n (uvs xs)) : RowU w g xs := by
  obtain ⟨hl, h⟩ := h
  rcases h with ⟨h1, _⟩ | ⟨g', cap, cur, hv, hb, hg, h1, h2, h3, h4⟩
  · simp at h1
  · simp only [Value.slice.injEq, Option.some.injEq, Addr.mk.injEq] at hv
    obtain ⟨⟨rfl, _⟩, _, rfl⟩ := hv
    refine ⟨cur, hg, fun j x hx => ?_⟩
    have hu : (uvs xs)[j]? = some (.int .u64 (x : Int)) := by rw [uvs, List.getElem?_map, hx]; rfl
    rw [← h4, List.getElem?_take] at hu
    split at hu
    · rw [Array.getElem?_toList] at hu; exact hu
    · cases hu
end
theorem uvs_get {w : World} {B : Nat} {A : Option Addr} {c : Nat} {xs : List Nat} (h : Sq w B A c (uvs xs)) {k : Nat} (hk : k < xs.length) : ∃ b o, A = some ⟨b, o, none⟩ ∧ b < B ∧ w.cell? ⟨b, o + k, none⟩ = some (.int .u64 ((xs.getD k 0 : Nat) : Int)) := by
  obtain ⟨b, o, hA, hb, hc⟩ := h.lie.at_ (k := k) (by simpa using hk)
  refine ⟨b, o, hA, hb, ?_⟩
  rw [hc, List.getD_eq_getElem?_getD, List.getElem?_eq_getElem hk]
  simp [uvs]
theorem emptyR_row (W : World) (e : TypeId) {k base : Nat} (h : W.heap.size = k) (hb : base ≤ k) : (W.alloc (.cells #[] e)).ownsRow base e 1 (.slice (some ⟨k, 0, none⟩) 0 0) 0 [] := by
  subst h
  exact World.ownsRow_lit W #[] 0 hb (by simp) rfl
theorem ownU_form {w : World} {base n : Nat} {e : TypeId} {v : Value} {xs : List Value} (h : w.ownsRow base e 1 v n xs) (hn : 0 < n) : ∃ g c, v = .slice (some ⟨g, 0, none⟩) n c ∧ base ≤ g ∧ g < w.heap.size ∧ n ≤ c ∧ c ≤ 9223372036854775807 := by
  obtain ⟨hl, h⟩ := h
  rcases h with ⟨_, h2⟩ | ⟨g', cap, cur, hv, hb, hg, h1, h2, h3, h4⟩
  · omega
  · exact ⟨g', cap, hv, hb, block_lt hg, h1, by simpa [maxLen] using h2⟩
/-- The call owns the words. -/
def OwnU (w : World) (B : Nat) (v : Value) (xs : List Nat) : Prop := w.ownsRow B 53 1 v xs.length (uvs xs)
theorem ownu_snoc {w : World} {B : Nat} {v : Value} {xs : List Nat} {n y : Nat} {z : Int} (h : w.ownsRow B 53 1 v n (uvs xs ++ [.int .u64 z])) (hn : n = xs.length + 1) (hz : z = (y : Int)) : OwnU w B v (xs ++ [y]) := by
  subst hn; subst hz
  unfold OwnU
  rw [uvs_append]
  simpa [uvs] using h
theorem ownu_nil (w : World) (B : Nat) : OwnU w B (.slice none 0 0) [] := ⟨rfl, .inl ⟨rfl, rfl⟩⟩
theorem byte_cell {w : World} {B b o : Nat} {xs : List UInt8} (h : Lie w B (some ⟨b, o, none⟩) (bvs xs)) {k : Nat} (hk : k < xs.length) : w.cell? ⟨b, o + k, none⟩ = some (.int .u8 (((xs.getD k 0).toNat : Nat) : Int)) := by
  obtain ⟨b', o', h1, _, h2⟩ := h.byte hk
  simp only [Option.some.injEq, Addr.mk.injEq] at h1
  obtain ⟨rfl, rfl, _⟩ := h1
  rw [h2, List.getD_eq_getElem?_getD, List.getElem?_eq_getElem hk]; rfl
theorem word_cell {w : World} {B b o : Nat} {xs : List Nat} (h : Lie w B (some ⟨b, o, none⟩) (uvs xs)) {k : Nat} (hk : k < xs.length) : w.cell? ⟨b, o + k, none⟩ = some (.int .u64 ((xs.getD k 0 : Nat) : Int)) := by
  obtain ⟨b', o', h1, _, h2⟩ := h.at_ (k := k) (by simpa using hk)
  simp only [Option.some.injEq, Addr.mk.injEq] at h1
  obtain ⟨rfl, rfl, _⟩ := h1
  rw [h2, List.getD_eq_getElem?_getD, List.getElem?_eq_getElem hk]; simp [uvs]
theorem RowU.lie {w : World} {g : Nat} {xs : List Nat} (h : RowU w g xs) : Lie w (g + 1) (some ⟨g, 0, none⟩) (uvs xs) := fun _ =>
  ⟨g, 0, rfl, by omega, fun j x hx => by
    rw [Nat.zero_add]
    have hj : j < xs.length := by
      have := (List.getElem?_eq_some_iff.1 hx).1
      simpa using this
    have h2 := h.cell (List.getElem?_eq_getElem hj)
    rw [h2, ← hx, uvs, List.getElem?_map, List.getElem?_eq_getElem hj]; rfl⟩
theorem turnR_l (x n : Nat) (z : Int) (a : Nat) (hx : x < 4294967296) (hn : n ≤ 32) (hz : z = (n : Int)) (ha : a = rotr x n) (w : World) (k : Nat) :
    Calls Tryz.prog 119 #[.int .u64 (x : Int), .int .i64 z] (w.drewN k) fun e w'' => e = .returned (.int .u64 (a : Int)) ∧ ∃ m, w'' = w.drewN m := by
  subst hz; subst ha
  exact (turnR_any x n _ hx hn).mono fun _ _ h => ⟨h.1, k, h.2.symm⟩
theorem shiftR_l (x n : Nat) (z : Int) (a : Nat) (hx : x < 18446744073709551616) (hn : n ≤ 64) (hz : z = (n : Int)) (ha : a = x / 2 ^ n) (w : World) (k : Nat) :
    Calls Tryz.prog 120 #[.int .u64 (x : Int), .int .i64 z] (w.drewN k) fun e w'' => e = .returned (.int .u64 (a : Int)) ∧ ∃ m, w'' = w.drewN m := by
  subst hz; subst ha
  exact (shiftR_any x n _ hx hn).mono fun _ _ h => ⟨h.1, k, h.2.symm⟩
theorem xor3_u64 (a b c : Nat) (ha : a < 4294967296) (hb : b < 4294967296) (hc : c < 4294967296) : bits .xor .u64 (bits .xor .u64 (a : Int) (b : Int)) (c : Int) = ((a ^^^ b ^^^ c : Nat) : Int) := by
  have hab : a ^^^ b < 4294967296 := Nat.xor_lt_two_pow (n := 32) ha hb
  rw [bits_xor_u64_nat _ _ (by omega) (by omega), bits_xor_u64_nat _ _ (by omega) (by omega)]
theorem bit_q (x z : Nat) (hx : x < 4294967296) : ∃ X X2 : Nat, IntKind.u64.wrap ((x : Int) / (z : Int)) = (X : Int) ∧ Int.tmod (X : Int) 2 = (X2 : Int) ∧ X2 = x / z % 2 ∧ X2 < 2 := by
  refine ⟨x / z, x / z % 2, ?_, (Int.ofNat_tmod _ 2).symm, rfl, Nat.mod_lt _ (by omega)⟩
  have := Nat.div_le_self x z
  rw [show (x : Int) / (z : Int) = ((x / z : Nat) : Int) from rfl]
  generalize x / z = d at *
  rw [IntKind.wrap_u64]; omega
theorem bit_mul (x y z : Nat) (hx : x < 2) (hz : z < 4294967296) (hy : y < z) : ∃ p r : Nat, IntKind.u64.wrap ((x : Int) * (z : Int)) = (p : Int) ∧ IntKind.u64.wrap ((y : Int) + (p : Int)) = (r : Int) ∧ r = y + x * z := by
  have h := Nat.mul_le_mul_right z (show x ≤ 1 by omega)
  refine ⟨x * z, y + x * z, ?_, ?_, rfl⟩
  · rw [← Int.natCast_mul, IntKind.wrap_u64]; omega
  · rw [IntKind.wrap_u64]; omega
/-- A word's first k bytes. -/
def wk (m : List UInt8) (t : Nat) : Nat → Nat
  | 0 => 0
  | k + 1 => 256 * wk m t k + (m.getD (4 * t + k) 0).toNat
theorem wk_lt (m : List UInt8) (t k : Nat) : wk m t k < 256 ^ k := by
  induction k with
  | zero => simp [wk]
  | succ k ih =>
    have := (m.getD (4 * t + k) 0).toNat_lt
    rw [Nat.pow_succ, wk]; omega
theorem wk_end (m : List UInt8) (t : Nat) : wk m t 4 = word4 m t := by
  simp only [wk, word4, Nat.add_zero]; omega
theorem block_getD (zs : List UInt8) (j k : Nat) (h : k < 64) : ((zs.drop (64 * j)).take 64).getD k 0 = zs.getD (64 * j + k) 0 := by
  rw [List.getD_eq_getElem?_getD, List.getElem?_take_of_lt h, List.getElem?_drop, List.getD_eq_getElem?_getD]
theorem wordsTo_low (m : List UInt8) (t : Nat) (h : t < 16) : wordsTo m (t + 1) = wordsTo m t ++ [word4 m t] := by simp only [wordsTo, if_pos h]
theorem wordsTo_high (m : List UInt8) (t : Nat) (h : ¬ t < 16) : wordsTo m (t + 1) = wordsTo m t ++ [(s1 ((wordsTo m t).getD (t - 2) 0) + (wordsTo m t).getD (t - 7) 0 + s0 ((wordsTo m t).getD (t - 15) 0) + (wordsTo m t).getD (t - 16) 0) % 4294967296] := by simp only [wordsTo, if_neg h]
end
end Go.Proofs.YtpkmidaflnbobaaGreatDoor
end
section
namespace Go.Proofs.YtpkmidaflnbobaaGreatDoor
section
open Go.RowKit
set_option linter.unusedVariables false
set_option linter.unusedSimpArgs false
set_option maxRecDepth 100000 in
set_option maxHeartbeats 4000000 in
theorem bits_loop {Q : Exit → Act → World → Prop} (gq cq va vb vc ve vf vg : Nat) (wq : World) (t0 t1 t2 t3 t4 t5 t6 t7 t8 t9 t10 t11 t12 t13 t14 t15 t16 t17 t18 t19 t21 t26 t27 t28 t29 t30 t31 t32 t33 t34 t35 t36 t37 t38 t39 t40 t41 t42 t43 t44 t45 t46 t47 t48 t49 t50 t51 t52 t53 t54 t55 t56 t57 t58 t59 t60 t61 t62 t63 t64 t65 t66 t67 t68 t69 t70 t71 t72 t73 t74 t75 t76 t77 t78 t79 t80 t81 t82 t83 t84 t85 t86 t87 t88 t89 t90 t91 t92 t93 t94 t95 t96 t97 t98 t99 t100 t101 t102 t103 t104 t105 t106 t107 t108 t109 t110 t111 t112 t113 t114 t115 t116 t117 t118 t119 t120 t121 t122 t123 t124 t125 t126 t127 t128 t129 t130 t131 t132 t133 t134 t135 t136 t137 t138 t139 t140 t141 t142 t143 t144 t145 t146 t147 t148 t149 t150 t151 t152 t153 t154 t155 t156 t157 t158 t159 t160 t161 t162 t163 t164 t165 t166 t167 t168 t169 t170 t171 t172 t173 t174 t175 t176 t177 t178 t179 t180 t181 t182 t183 t184 t185 t186 t187 t188 t189 t190 t191 t192 t193 t194 t195 t196 t197 t198 t199 t200 t201 t202 t203 t204 t205 t206 t207 t208 t209 t210 t211 t212 t213 t214 t215 t216 t217 t218 t219 t220 t221 t222 t223 t224 t225 t226 t227 t228 t229 t230 t231 t232 t233 t234 t235 t236 t237 t238 t239 t240 t241 t242 t243 t244 t245 t246 t247 t248 t249 t250 t251 t252 t253 t254 t255 t256 t257 t258 t259 t260 t261 t262 t263 t264 t265 t266 t267 t268 t269 t270 t271 t272 t273 t274 t275 t276 t277 t278 t279 t280 t281 t282 t283 t284 t285 t286 t287 t288 t289 t290 t291 t292 t293 t294 t295 t296 t297 t298 t299 t300 t301 t302 t303 t304 t305 t306 t307 t308 t309 t310 t311 t312 t313 t314 t315 t316 t317 t318 t319 t320 t321 t322 t323 t324 t325 t326 t327 t328 t329 t330 t331 t332 t333 t334 t335 t336 t337 t338 t339 t340 t341 t342 t343 t344 t345 t346 t347 t348 t349 t350 t351 : Value)
    (hcq1 : 8 ≤ cq) (h1 : va < 4294967296) (h2 : vb < 4294967296) (h3 : vc < 4294967296) (h5 : ve < 4294967296) (h6 : vf < 4294967296) (h7 : vg < 4294967296)
    (hc0 : wq.cell? ⟨gq, 0, none⟩ = some (.int .u64 (va : Int))) (hc1 : wq.cell? ⟨gq, 1, none⟩ = some (.int .u64 (vb : Int))) (hc2 : wq.cell? ⟨gq, 2, none⟩ = some (.int .u64 (vc : Int)))
    (hc4 : wq.cell? ⟨gq, 4, none⟩ = some (.int .u64 (ve : Int))) (hc5 : wq.cell? ⟨gq, 5, none⟩ = some (.int .u64 (vf : Int))) (hc6 : wq.cell? ⟨gq, 6, none⟩ = some (.int .u64 (vg : Int)))
    (hexit : ∀ (n : Nat) (u24 u25 u169 u170 u171 u172 u173 u174 u175 u176 u177 u178 u179 u180 u181 u182 u183 u184 u185 u186 u187 u188 u189 u190 u191 u192 u193 u194 u195 u196 u197 u198 u199 u200 u201 u202 u203 u204 u205 u206 u207 u208 u209 u210 u211 u212 u213 u214 u215 u216 u217 u218 u219 u220 u221 u222 u223 u224 u225 : Value), Q (.exit 14) ⟨(t0 :: t1 :: t2 :: t3 :: t4 :: t5 :: t6 :: t7 :: t8 :: t9 :: t10 :: t11 :: t12 :: t13 :: t14 :: t15 :: t16 :: t17 :: t18 :: t19 :: (.slice (some ⟨gq, 0, none⟩) 8 cq) :: t21 :: (.int .u64 ((chN ve vf vg : Nat) : Int)) :: (.int .u64 ((majN va vb vc : Nat) : Int)) :: u24 :: u25 :: t26 :: t27 :: t28 :: t29 :: t30 :: t31 :: t32 :: t33 :: t34 :: t35 :: t36 :: t37 :: t38 :: t39 :: t40 :: t41 :: t42 :: t43 :: t44 :: t45 :: t46 :: t47 :: t48 :: t49 :: t50 :: t51 :: t52 :: t53 :: t54 :: t55 :: t56 :: t57 :: t58 :: t59 :: t60 :: t61 :: t62 :: t63 :: t64 :: t65 :: t66 :: t67 :: t68 :: t69 :: t70 :: t71 :: t72 :: t73 :: t74 :: t75 :: t76 :: t77 :: t78 :: t79 :: t80 :: t81 :: t82 :: t83 :: t84 :: t85 :: t86 :: t87 :: t88 :: t89 :: t90 :: t91 :: t92 :: t93 :: t94 :: t95 :: t96 :: t97 :: t98 :: t99 :: t100 :: t101 :: t102 :: t103 :: t104 :: t105 :: t106 :: t107 :: t108 :: t109 :: t110 :: t111 :: t112 :: t113 :: t114 :: t115 :: t116 :: t117 :: t118 :: t119 :: t120 :: t121 :: t122 :: t123 :: t124 :: t125 :: t126 :: t127 :: t128 :: t129 :: t130 :: t131 :: t132 :: t133 :: t134 :: t135 :: t136 :: t137 :: t138 :: t139 :: t140 :: t141 :: t142 :: t143 :: t144 :: t145 :: t146 :: t147 :: t148 :: t149 :: t150 :: t151 :: t152 :: t153 :: t154 :: t155 :: t156 :: t157 :: t158 :: t159 :: t160 :: t161 :: t162 :: t163 :: t164 :: t165 :: t166 :: t167 :: t168 :: u169 :: u170 :: u171 :: u172 :: u173 :: u174 :: u175 :: u176 :: u177 :: u178 :: u179 :: u180 :: u181 :: u182 :: u183 :: u184 :: u185 :: u186 :: u187 :: u188 :: u189 :: u190 :: u191 :: u192 :: u193 :: u194 :: u195 :: u196 :: u197 :: u198 :: u199 :: u200 :: u201 :: u202 :: u203 :: u204 :: u205 :: u206 :: u207 :: u208 :: u209 :: u210 :: u211 :: u212 :: u213 :: u214 :: u215 :: u216 :: u217 :: u218 :: u219 :: u220 :: u221 :: u222 :: u223 :: u224 :: u225 :: t226 :: t227 :: t228 :: t229 :: t230 :: t231 :: t232 :: t233 :: t234 :: t235 :: t236 :: t237 :: t238 :: t239 :: t240 :: t241 :: t242 :: t243 :: t244 :: t245 :: t246 :: t247 :: t248 :: t249 :: t250 :: t251 :: t252 :: t253 :: t254 :: t255 :: t256 :: t257 :: t258 :: t259 :: t260 :: t261 :: t262 :: t263 :: t264 :: t265 :: t266 :: t267 :: t268 :: t269 :: t270 :: t271 :: t272 :: t273 :: t274 :: t275 :: t276 :: t277 :: t278 :: t279 :: t280 :: t281 :: t282 :: t283 :: t284 :: t285 :: t286 :: t287 :: t288 :: t289 :: t290 :: t291 :: t292 :: t293 :: t294 :: t295 :: t296 :: t297 :: t298 :: t299 :: t300 :: t301 :: t302 :: t303 :: t304 :: t305 :: t306 :: t307 :: t308 :: t309 :: t310 :: t311 :: t312 :: t313 :: t314 :: t315 :: t316 :: t317 :: t318 :: t319 :: t320 :: t321 :: t322 :: t323 :: t324 :: t325 :: t326 :: t327 :: t328 :: t329 :: t330 :: t331 :: t332 :: t333 :: t334 :: t335 :: t336 :: t337 :: t338 :: t339 :: t340 :: t341 :: t342 :: t343 :: t344 :: t345 :: t346 :: t347 :: t348 :: t349 :: t350 :: t351 :: []).toArray, []⟩ (wq.drewN n)) :
    Code.wp Tryz.prog (Code.loop (loopN Tryz.f98 7)) Q ⟨(t0 :: t1 :: t2 :: t3 :: t4 :: t5 :: t6 :: t7 :: t8 :: t9 :: t10 :: t11 :: t12 :: t13 :: t14 :: t15 :: t16 :: t17 :: t18 :: t19 :: (.slice (some ⟨gq, 0, none⟩) 8 cq) :: t21 :: (.int .u64 0) :: (.int .u64 0) :: (.int .u64 1) :: (.int .i64 0) :: t26 :: t27 :: t28 :: t29 :: t30 :: t31 :: t32 :: t33 :: t34 :: t35 :: t36 :: t37 :: t38 :: t39 :: t40 :: t41 :: t42 :: t43 :: t44 :: t45 :: t46 :: t47 :: t48 :: t49 :: t50 :: t51 :: t52 :: t53 :: t54 :: t55 :: t56 :: t57 :: t58 :: t59 :: t60 :: t61 :: t62 :: t63 :: t64 :: t65 :: t66 :: t67 :: t68 :: t69 :: t70 :: t71 :: t72 :: t73 :: t74 :: t75 :: t76 :: t77 :: t78 :: t79 :: t80 :: t81 :: t82 :: t83 :: t84 :: t85 :: t86 :: t87 :: t88 :: t89 :: t90 :: t91 :: t92 :: t93 :: t94 :: t95 :: t96 :: t97 :: t98 :: t99 :: t100 :: t101 :: t102 :: t103 :: t104 :: t105 :: t106 :: t107 :: t108 :: t109 :: t110 :: t111 :: t112 :: t113 :: t114 :: t115 :: t116 :: t117 :: t118 :: t119 :: t120 :: t121 :: t122 :: t123 :: t124 :: t125 :: t126 :: t127 :: t128 :: t129 :: t130 :: t131 :: t132 :: t133 :: t134 :: t135 :: t136 :: t137 :: t138 :: t139 :: t140 :: t141 :: t142 :: t143 :: t144 :: t145 :: t146 :: t147 :: t148 :: t149 :: t150 :: t151 :: t152 :: t153 :: t154 :: t155 :: t156 :: t157 :: t158 :: t159 :: t160 :: t161 :: t162 :: t163 :: t164 :: t165 :: t166 :: t167 :: t168 :: t169 :: t170 :: t171 :: t172 :: t173 :: t174 :: t175 :: t176 :: t177 :: t178 :: t179 :: t180 :: t181 :: t182 :: t183 :: t184 :: t185 :: t186 :: t187 :: t188 :: t189 :: t190 :: t191 :: t192 :: t193 :: t194 :: t195 :: t196 :: t197 :: t198 :: t199 :: t200 :: t201 :: t202 :: t203 :: t204 :: t205 :: t206 :: t207 :: t208 :: t209 :: t210 :: t211 :: t212 :: t213 :: t214 :: t215 :: t216 :: t217 :: t218 :: t219 :: t220 :: t221 :: t222 :: t223 :: t224 :: t225 :: t226 :: t227 :: t228 :: t229 :: t230 :: t231 :: t232 :: t233 :: t234 :: t235 :: t236 :: t237 :: t238 :: t239 :: t240 :: t241 :: t242 :: t243 :: t244 :: t245 :: t246 :: t247 :: t248 :: t249 :: t250 :: t251 :: t252 :: t253 :: t254 :: t255 :: t256 :: t257 :: t258 :: t259 :: t260 :: t261 :: t262 :: t263 :: t264 :: t265 :: t266 :: t267 :: t268 :: t269 :: t270 :: t271 :: t272 :: t273 :: t274 :: t275 :: t276 :: t277 :: t278 :: t279 :: t280 :: t281 :: t282 :: t283 :: t284 :: t285 :: t286 :: t287 :: t288 :: t289 :: t290 :: t291 :: t292 :: t293 :: t294 :: t295 :: t296 :: t297 :: t298 :: t299 :: t300 :: t301 :: t302 :: t303 :: t304 :: t305 :: t306 :: t307 :: t308 :: t309 :: t310 :: t311 :: t312 :: t313 :: t314 :: t315 :: t316 :: t317 :: t318 :: t319 :: t320 :: t321 :: t322 :: t323 :: t324 :: t325 :: t326 :: t327 :: t328 :: t329 :: t330 :: t331 :: t332 :: t333 :: t334 :: t335 :: t336 :: t337 :: t338 :: t339 :: t340 :: t341 :: t342 :: t343 :: t344 :: t345 :: t346 :: t347 :: t348 :: t349 :: t350 :: t351 :: []).toArray, []⟩ wq := by
  conv => arg 2; arg 1; whnf
  go_loopg [22, 23, 24, 25] 32 (fun g x y z i wr => ∃ (k X Y Z : Nat), k + g = 32 ∧ i = .int .i64 (k : Int) ∧ x = .int .u64 (X : Int) ∧ y = .int .u64 (Y : Int) ∧ z = .int .u64 (Z : Int) ∧ X = chN ve vf vg % 2 ^ k ∧ Y = majN va vb vc % 2 ^ k ∧ Z = 2 ^ k ∧ ∃ n, wr = wq.drewN n)
  case atStart => exact ⟨0, 0, 0, 1, rfl, rfl, rfl, rfl, rfl, by rw [Nat.pow_zero, Nat.mod_one], by rw [Nat.pow_zero, Nat.mod_one], rfl, 0, rfl⟩
  case round =>
    obtain ⟨k, X, Y, Z, hk, rfl, rfl, rfl, rfl, hX, hY, hZ, hw⟩ := hrel
    have hcell : ∀ p, wr.cell? p = wq.cell? p := by obtain ⟨n, rfl⟩ := hw; exact fun p => rfl
    rw [← hcell] at hc0 hc1 hc2 hc4 hc5 hc6
    have HW := hid hw
    clear hw hcell
    by_cases hk32 : k < 32
    · have hki : (k : Int) < 32 := by omega
      have hk0 : (0 : Int) ≤ (k : Int) := by omega
      have hZl : Z < 4294967296 := by rw [hZ]; exact Nat.pow_lt_pow_right (m := k) (n := 32) (by omega) hk32
      have hZp : 0 < Z := by rw [hZ]; exact Nat.two_pow_pos k
      have hXl : X < Z := by rw [hX, hZ]; exact Nat.mod_lt _ (Nat.two_pow_pos k)
      have hYl : Y < Z := by rw [hY, hZ]; exact Nat.mod_lt _ (Nat.two_pow_pos k)
      have hzi : (1 : Int) ≤ (Z : Int) := by omega
      obtain ⟨e1, e2, be1, be2, be, bel⟩ := bit_q ve Z h5
      obtain ⟨f1, f2, bf1, bf2, bf, bfl⟩ := bit_q vf Z h6
      obtain ⟨g1, g2, bg1, bg2, bg, bgl⟩ := bit_q vg Z h7
      obtain ⟨a1, a2, ba1, ba2, ba, bal⟩ := bit_q va Z h1
      obtain ⟨b1, b2, bb1, bb2, bb, bbl⟩ := bit_q vb Z h2
      obtain ⟨d1, d2, bd1, bd2, bd, bdl⟩ := bit_q vc Z h3
      have hch : chN ve vf vg % 2 ^ (k + 1) = X + (if e2 = 1 then f2 else g2) * Z := by rw [mod_bit, ch_bit _ _ _ _ h5 hk32, ← hX, ← hZ, ← be, ← bf, ← bg]
      have hmj : majN va vb vc % 2 ^ (k + 1) = Y + (if 2 ≤ a2 + b2 + d2 then 1 else 0) * Z := by rw [mod_bit, maj_bit, ← hY, ← hZ, ← ba, ← bb, ← bd]
      obtain ⟨pf, rf, mf1, mf2, mf⟩ := bit_mul f2 X Z bfl hZl hXl
      obtain ⟨pg, rg, mg1, mg2, mg⟩ := bit_mul g2 X Z bgl hZl hXl
      obtain ⟨Z2, hZ2⟩ : ∃ z, z = 2 * Z := ⟨_, rfl⟩
      have hZw : IntKind.u64.wrap (2 * (Z : Int)) = (Z2 : Int) := by rw [IntKind.wrap_u64]; omega
      obtain ⟨Y2, hY2⟩ : ∃ y, y = Y + Z := ⟨_, rfl⟩
      have hYw : IntKind.u64.wrap ((Y : Int) + (Z : Int)) = (Y2 : Int) := by rw [IntKind.wrap_u64]; omega
      obtain ⟨n1, hn1⟩ : ∃ n, n = a2 + b2 := ⟨_, rfl⟩
      obtain ⟨n2, hn2⟩ : ∃ n, n = n1 + d2 := ⟨_, rfl⟩
      have nw1 : IntKind.u64.wrap ((a2 : Int) + (b2 : Int)) = (n1 : Int) := by rw [IntKind.wrap_u64]; omega
      have nw2 : IntKind.u64.wrap ((n1 : Int) + (d2 : Int)) = (n2 : Int) := by rw [IntKind.wrap_u64]; omega
      rw [← hn1, ← hn2] at hmj
      have hzz : Z2 = 2 ^ (k + 1) := by rw [hZ2, hZ, Nat.pow_succ]; omega
      have HCH := hid hch; have HMJ := hid hmj; have HZZ := hid hzz; have HKK := hid hk; have HMF := hid mf; have HMG := hid mg; have HY2 := hid hY2
      clear hX hY hZ hXl hYl hZl hch hmj be bf bg ba bb bd hZ2 hn1 hn2 hzz hk mf mg hY2
      have hm : n2 < 2 ∨ 2 ≤ n2 := by omega
      rcases (by omega : e2 = 0 ∨ e2 = 1) with rfl | rfl
      · replace be2 : Int.tmod (e1 : Int) 2 = 0 := be2
        rcases hm with hm | hm
        · have hmi : (n2 : Int) < 2 := by omega
          go_wp2
          go_quiet (fail)
          go_wp2
          have hk := HKK.out
          go_roundg (32 - k - 1)
          case measure => omega
          case rel => exact ⟨k + 1, rg, Y, Z2, by omega, by go_num, rfl, rfl, rfl, by rw [HCH.out, HMG.out]; rfl, by rw [HMJ.out]; simp [Nat.not_le.2 hm], HZZ.out, by obtain ⟨n, hn⟩ := HW.out; exact ⟨_, by rw [hn, World.drewN_drewN]⟩⟩
        · have hmi : (2 : Int) ≤ (n2 : Int) := by omega
          go_wp2
          go_quiet (fail)
          go_wp2
          have hk := HKK.out
          go_roundg (32 - k - 1)
          case measure => omega
          case rel => exact ⟨k + 1, rg, Y2, Z2, by omega, by go_num, rfl, rfl, rfl, by rw [HCH.out, HMG.out]; rfl, by rw [HMJ.out, HY2.out]; simp [hm], HZZ.out, by obtain ⟨n, hn⟩ := HW.out; exact ⟨_, by rw [hn, World.drewN_drewN]⟩⟩
      · replace be2 : Int.tmod (e1 : Int) 2 = 1 := be2
        rcases hm with hm | hm
        · have hmi : (n2 : Int) < 2 := by omega
          go_wp2
          go_quiet (fail)
          go_wp2
          have hk := HKK.out
          go_roundg (32 - k - 1)
          case measure => omega
          case rel => exact ⟨k + 1, rf, Y, Z2, by omega, by go_num, rfl, rfl, rfl, by rw [HCH.out, HMF.out]; rfl, by rw [HMJ.out]; simp [Nat.not_le.2 hm], HZZ.out, by obtain ⟨n, hn⟩ := HW.out; exact ⟨_, by rw [hn, World.drewN_drewN]⟩⟩
        · have hmi : (2 : Int) ≤ (n2 : Int) := by omega
          go_wp2
          go_quiet (fail)
          go_wp2
          have hk := HKK.out
          go_roundg (32 - k - 1)
          case measure => omega
          case rel => exact ⟨k + 1, rf, Y2, Z2, by omega, by go_num, rfl, rfl, rfl, by rw [HCH.out, HMF.out]; rfl, by rw [HMJ.out, HY2.out]; simp [hm], HZZ.out, by obtain ⟨n, hn⟩ := HW.out; exact ⟨_, by rw [hn, World.drewN_drewN]⟩⟩
    · obtain rfl : k = 32 := by omega
      have hki : ¬ ((32 : Nat) : Int) < 32 := by omega
      have hXe : X = chN ve vf vg := by rw [hX]; exact Nat.mod_eq_of_lt (chN_lt _ _ _ h5 h6 h7)
      have hYe : Y = majN va vb vc := by rw [hY]; exact Nat.mod_eq_of_lt (majN_lt _ _ _ h2 h3)
      obtain ⟨n, hn⟩ := HW.out
      subst hXe; subst hYe; subst hn
      clear hX hY hZ HW hc0 hc1 hc2 hc4 hc5 hc6
      go_wp2
      exact hexit n _ _ _ _ _ _ _ _ _ _ _ _ _ _ _ _ _ _ _ _ _ _ _ _ _ _ _ _ _ _ _ _ _ _ _ _ _ _ _ _ _ _ _ _ _ _ _ _ _ _ _ _ _ _ _ _ _ _ _
end
section
open Go.RowKit
set_option linter.unusedVariables false
set_option linter.unusedSimpArgs false
set_option maxRecDepth 100000 in
set_option maxHeartbeats 4000000 in
theorem rounds_loop {Q : Exit → Act → World → Prop} (A2 : Option Addr) (c2 g6 c6 gv cv : Nat) (K xs : List Nat) (v0 : St8) (wt w6 : World) (t0 t1 t3 t4 t5 t6 t7 t8 t9 t10 t11 t12 t13 t15 t16 t17 t18 t19 t22 t23 t24 t25 t26 t27 t28 t29 t30 t31 t32 t33 t34 t35 t36 t37 t38 t39 t40 t41 t42 t43 t44 t45 t46 t47 t48 t49 t50 t51 t52 t53 t54 t55 t56 t57 t58 t59 t60 t61 t62 t63 t64 t65 t66 t67 t68 t69 t70 t71 t72 t73 t74 t75 t76 t77 t78 t79 t80 t81 t82 t83 t84 t85 t86 t87 t88 t89 t90 t91 t92 t93 t94 t95 t96 t97 t98 t99 t100 t101 t102 t103 t104 t105 t106 t107 t108 t109 t110 t111 t112 t113 t114 t115 t116 t117 t118 t119 t120 t121 t122 t123 t124 t125 t126 t127 t128 t129 t130 t131 t132 t133 t134 t135 t136 t137 t138 t139 t140 t141 t142 t143 t144 t145 t146 t147 t148 t149 t150 t151 t152 t153 t154 t155 t156 t157 t158 t159 t160 t161 t162 t163 t164 t165 t166 t167 t168 t169 t170 t171 t172 t173 t174 t175 t176 t177 t178 t179 t180 t181 t182 t183 t184 t185 t186 t187 t188 t189 t190 t191 t192 t193 t194 t195 t196 t197 t198 t199 t200 t201 t202 t203 t204 t205 t206 t207 t208 t209 t210 t211 t212 t213 t214 t215 t216 t217 t218 t219 t220 t221 t222 t223 t224 t225 t226 t227 t228 t229 t230 t231 t232 t233 t234 t235 t236 t237 t238 t239 t240 t241 t242 t243 t244 t245 t246 t247 t248 t249 t250 t251 t252 t253 t254 t255 t256 t257 t258 t259 t260 t261 t262 t263 t264 t265 t266 t267 t268 t269 t270 t271 t272 t273 t274 t275 t276 t277 t278 t279 t280 t281 t282 t283 t284 t285 t286 t287 t288 t289 t290 t291 t292 t293 t294 t295 t296 t297 t298 t299 t300 t301 t302 t303 t304 t305 t306 t307 t308 t309 t310 t311 t312 t313 t314 t315 t316 t317 t318 t319 t320 t321 t322 t323 t324 t325 t326 t327 t328 t329 t330 t331 t332 t333 t334 t335 t336 t337 t338 t339 t340 t341 t342 t343 t344 t345 t346 t347 t348 t349 t350 t351 : Value)
    (hxl : xs.length = 64) (hKl : K.length = 64) (hvo : v0.ok) (hKm : ∀ k, K.getD k 0 < 4294967296) (hXm : ∀ k, xs.getD k 0 < 4294967296)
    (hcv : 8 ≤ cv) (hcv2 : cv ≤ 9223372036854775807) (hru : RowU w6 gv v0.list) (hgv : wt.heap.size ≤ gv) (hb : Below wt.heap.size wt w6)
    (hks : Sq wt wt.heap.size A2 c2 (uvs K)) (hxs : Lie wt wt.heap.size (some ⟨g6, 0, none⟩) (uvs xs)) (hc6 : 64 ≤ c6)
    (hexit : ∀ (gq cq : Nat) (w' : World) (u21 u22 u23 u24 u25 u26 u27 u165 u166 u167 u168 u169 u170 u171 u172 u173 u174 u175 u176 u177 u178 u179 u180 u181 u182 u183 u184 u185 u186 u187 u188 u189 u190 u191 u192 u193 u194 u195 u196 u197 u198 u199 u200 u201 u202 u203 u204 u205 u206 u207 u208 u209 u210 u211 u212 u213 u214 u215 u216 u217 u218 u219 u220 u221 u222 u223 u224 u225 u226 u227 u228 u229 u230 u231 u232 u233 u234 u235 u236 u237 u238 u239 u240 u241 u242 u243 u244 u245 u246 u247 u248 u249 u250 u251 u252 u253 u254 u255 u256 u257 u258 u259 u260 u261 u262 u263 u264 u265 u266 u267 u268 u269 u270 u271 u272 u273 u274 u275 u276 u277 u278 u279 u280 u281 u282 u283 u284 u285 u286 u287 u288 u289 u290 u291 u292 u293 u294 u295 u296 u297 u298 u299 u300 : Value), RowU w' gq (rnd K xs v0 64).list → wt.heap.size ≤ gq → 8 ≤ cq → cq ≤ 9223372036854775807 → Below wt.heap.size wt w' → Q (.exit 12) ⟨(t0 :: t1 :: (.slice A2 64 c2) :: t3 :: t4 :: t5 :: t6 :: t7 :: t8 :: t9 :: t10 :: t11 :: t12 :: t13 :: (.slice (some ⟨g6, 0, none⟩) 64 c6) :: t15 :: t16 :: t17 :: t18 :: t19 :: (.slice (some ⟨gq, 0, none⟩) 8 cq) :: u21 :: u22 :: u23 :: u24 :: u25 :: u26 :: u27 :: t28 :: t29 :: t30 :: t31 :: t32 :: t33 :: t34 :: t35 :: t36 :: t37 :: t38 :: t39 :: t40 :: t41 :: t42 :: t43 :: t44 :: t45 :: t46 :: t47 :: t48 :: t49 :: t50 :: t51 :: t52 :: t53 :: t54 :: t55 :: t56 :: t57 :: t58 :: t59 :: t60 :: t61 :: t62 :: t63 :: t64 :: t65 :: t66 :: t67 :: t68 :: t69 :: t70 :: t71 :: t72 :: t73 :: t74 :: t75 :: t76 :: t77 :: t78 :: t79 :: t80 :: t81 :: t82 :: t83 :: t84 :: t85 :: t86 :: t87 :: t88 :: t89 :: t90 :: t91 :: t92 :: t93 :: t94 :: t95 :: t96 :: t97 :: t98 :: t99 :: t100 :: t101 :: t102 :: t103 :: t104 :: t105 :: t106 :: t107 :: t108 :: t109 :: t110 :: t111 :: t112 :: t113 :: t114 :: t115 :: t116 :: t117 :: t118 :: t119 :: t120 :: t121 :: t122 :: t123 :: t124 :: t125 :: t126 :: t127 :: t128 :: t129 :: t130 :: t131 :: t132 :: t133 :: t134 :: t135 :: t136 :: t137 :: t138 :: t139 :: t140 :: t141 :: t142 :: t143 :: t144 :: t145 :: t146 :: t147 :: t148 :: t149 :: t150 :: t151 :: t152 :: t153 :: t154 :: t155 :: t156 :: t157 :: t158 :: t159 :: t160 :: t161 :: t162 :: t163 :: t164 :: u165 :: u166 :: u167 :: u168 :: u169 :: u170 :: u171 :: u172 :: u173 :: u174 :: u175 :: u176 :: u177 :: u178 :: u179 :: u180 :: u181 :: u182 :: u183 :: u184 :: u185 :: u186 :: u187 :: u188 :: u189 :: u190 :: u191 :: u192 :: u193 :: u194 :: u195 :: u196 :: u197 :: u198 :: u199 :: u200 :: u201 :: u202 :: u203 :: u204 :: u205 :: u206 :: u207 :: u208 :: u209 :: u210 :: u211 :: u212 :: u213 :: u214 :: u215 :: u216 :: u217 :: u218 :: u219 :: u220 :: u221 :: u222 :: u223 :: u224 :: u225 :: u226 :: u227 :: u228 :: u229 :: u230 :: u231 :: u232 :: u233 :: u234 :: u235 :: u236 :: u237 :: u238 :: u239 :: u240 :: u241 :: u242 :: u243 :: u244 :: u245 :: u246 :: u247 :: u248 :: u249 :: u250 :: u251 :: u252 :: u253 :: u254 :: u255 :: u256 :: u257 :: u258 :: u259 :: u260 :: u261 :: u262 :: u263 :: u264 :: u265 :: u266 :: u267 :: u268 :: u269 :: u270 :: u271 :: u272 :: u273 :: u274 :: u275 :: u276 :: u277 :: u278 :: u279 :: u280 :: u281 :: u282 :: u283 :: u284 :: u285 :: u286 :: u287 :: u288 :: u289 :: u290 :: u291 :: u292 :: u293 :: u294 :: u295 :: u296 :: u297 :: u298 :: u299 :: u300 :: t301 :: t302 :: t303 :: t304 :: t305 :: t306 :: t307 :: t308 :: t309 :: t310 :: t311 :: t312 :: t313 :: t314 :: t315 :: t316 :: t317 :: t318 :: t319 :: t320 :: t321 :: t322 :: t323 :: t324 :: t325 :: t326 :: t327 :: t328 :: t329 :: t330 :: t331 :: t332 :: t333 :: t334 :: t335 :: t336 :: t337 :: t338 :: t339 :: t340 :: t341 :: t342 :: t343 :: t344 :: t345 :: t346 :: t347 :: t348 :: t349 :: t350 :: t351 :: []).toArray, []⟩ w') :
    Code.wp Tryz.prog (Code.loop (loopN Tryz.f98 6)) Q ⟨(t0 :: t1 :: (.slice A2 64 c2) :: t3 :: t4 :: t5 :: t6 :: t7 :: t8 :: t9 :: t10 :: t11 :: t12 :: t13 :: (.slice (some ⟨g6, 0, none⟩) 64 c6) :: t15 :: t16 :: t17 :: t18 :: t19 :: (.slice (some ⟨gv, 0, none⟩) 8 cv) :: (.int .i64 0) :: t22 :: t23 :: t24 :: t25 :: t26 :: t27 :: t28 :: t29 :: t30 :: t31 :: t32 :: t33 :: t34 :: t35 :: t36 :: t37 :: t38 :: t39 :: t40 :: t41 :: t42 :: t43 :: t44 :: t45 :: t46 :: t47 :: t48 :: t49 :: t50 :: t51 :: t52 :: t53 :: t54 :: t55 :: t56 :: t57 :: t58 :: t59 :: t60 :: t61 :: t62 :: t63 :: t64 :: t65 :: t66 :: t67 :: t68 :: t69 :: t70 :: t71 :: t72 :: t73 :: t74 :: t75 :: t76 :: t77 :: t78 :: t79 :: t80 :: t81 :: t82 :: t83 :: t84 :: t85 :: t86 :: t87 :: t88 :: t89 :: t90 :: t91 :: t92 :: t93 :: t94 :: t95 :: t96 :: t97 :: t98 :: t99 :: t100 :: t101 :: t102 :: t103 :: t104 :: t105 :: t106 :: t107 :: t108 :: t109 :: t110 :: t111 :: t112 :: t113 :: t114 :: t115 :: t116 :: t117 :: t118 :: t119 :: t120 :: t121 :: t122 :: t123 :: t124 :: t125 :: t126 :: t127 :: t128 :: t129 :: t130 :: t131 :: t132 :: t133 :: t134 :: t135 :: t136 :: t137 :: t138 :: t139 :: t140 :: t141 :: t142 :: t143 :: t144 :: t145 :: t146 :: t147 :: t148 :: t149 :: t150 :: t151 :: t152 :: t153 :: t154 :: t155 :: t156 :: t157 :: t158 :: t159 :: t160 :: t161 :: t162 :: t163 :: t164 :: t165 :: t166 :: t167 :: t168 :: t169 :: t170 :: t171 :: t172 :: t173 :: t174 :: t175 :: t176 :: t177 :: t178 :: t179 :: t180 :: t181 :: t182 :: t183 :: t184 :: t185 :: t186 :: t187 :: t188 :: t189 :: t190 :: t191 :: t192 :: t193 :: t194 :: t195 :: t196 :: t197 :: t198 :: t199 :: t200 :: t201 :: t202 :: t203 :: t204 :: t205 :: t206 :: t207 :: t208 :: t209 :: t210 :: t211 :: t212 :: t213 :: t214 :: t215 :: t216 :: t217 :: t218 :: t219 :: t220 :: t221 :: t222 :: t223 :: t224 :: t225 :: t226 :: t227 :: t228 :: t229 :: t230 :: t231 :: t232 :: t233 :: t234 :: t235 :: t236 :: t237 :: t238 :: t239 :: t240 :: t241 :: t242 :: t243 :: t244 :: t245 :: t246 :: t247 :: t248 :: t249 :: t250 :: t251 :: t252 :: t253 :: t254 :: t255 :: t256 :: t257 :: t258 :: t259 :: t260 :: t261 :: t262 :: t263 :: t264 :: t265 :: t266 :: t267 :: t268 :: t269 :: t270 :: t271 :: t272 :: t273 :: t274 :: t275 :: t276 :: t277 :: t278 :: t279 :: t280 :: t281 :: t282 :: t283 :: t284 :: t285 :: t286 :: t287 :: t288 :: t289 :: t290 :: t291 :: t292 :: t293 :: t294 :: t295 :: t296 :: t297 :: t298 :: t299 :: t300 :: t301 :: t302 :: t303 :: t304 :: t305 :: t306 :: t307 :: t308 :: t309 :: t310 :: t311 :: t312 :: t313 :: t314 :: t315 :: t316 :: t317 :: t318 :: t319 :: t320 :: t321 :: t322 :: t323 :: t324 :: t325 :: t326 :: t327 :: t328 :: t329 :: t330 :: t331 :: t332 :: t333 :: t334 :: t335 :: t336 :: t337 :: t338 :: t339 :: t340 :: t341 :: t342 :: t343 :: t344 :: t345 :: t346 :: t347 :: t348 :: t349 :: t350 :: t351 :: []).toArray, []⟩ w6 := by
  conv => arg 2; arg 1; whnf
  have HXL := hid hxl; have HKL := hid hKl; have HVO := hid hvo; have HKM := hid hKm; have HXM := hid hXm; have HKS := hid hks; have HXS := hid hxs
  clear hxl hKl hvo hKm hXm hks hxs
  go_loopg [20, 21] 64 (fun g u i wr => ∃ (q gq cq : Nat), q + g = 64 ∧ i = .int .i64 (q : Int) ∧ u = .slice (some ⟨gq, 0, none⟩) 8 cq ∧ RowU wr gq (rnd K xs v0 q).list ∧ wt.heap.size ≤ gq ∧ 8 ≤ cq ∧ cq ≤ 9223372036854775807 ∧ Below wt.heap.size wt wr)
  case atStart => exact ⟨0, gv, cv, rfl, rfl, rfl, hru, hgv, hcv, hcv2, hb⟩
  case round =>
    clear hru hgv hb
    obtain ⟨q, gq, cq, hq, rfl, rfl, hru, hgq, hcq1, hcq2, hb⟩ := hrel
    obtain ⟨wq, rfl⟩ : ∃ wq : World, wq = wr := ⟨_, rfl⟩
    obtain ⟨v, hv⟩ : ∃ v, v = rnd K xs v0 q := ⟨_, rfl⟩
    rw [← hv] at hru
    have hvk : v.ok := by rw [hv]; exact rnd_ok _ _ _ HVO.out _
    obtain ⟨va, vb, vc, vd, ve, vf, vg, vh⟩ := v
    obtain ⟨h1, h2, h3, h4, h5, h6, h7, h8⟩ := hvk
    simp only at h1 h2 h3 h4 h5 h6 h7 h8
    have hc0 : wq.cell? ⟨gq, 0, none⟩ = some (.int .u64 (va : Int)) := hru.cell rfl
    have hc1 : wq.cell? ⟨gq, 1, none⟩ = some (.int .u64 (vb : Int)) := hru.cell rfl
    have hc2 : wq.cell? ⟨gq, 2, none⟩ = some (.int .u64 (vc : Int)) := hru.cell rfl
    have hc3 : wq.cell? ⟨gq, 3, none⟩ = some (.int .u64 (vd : Int)) := hru.cell rfl
    have hc4 : wq.cell? ⟨gq, 4, none⟩ = some (.int .u64 (ve : Int)) := hru.cell rfl
    have hc5 : wq.cell? ⟨gq, 5, none⟩ = some (.int .u64 (vf : Int)) := hru.cell rfl
    have hc6' : wq.cell? ⟨gq, 6, none⟩ = some (.int .u64 (vg : Int)) := hru.cell rfl
    have hc7 : wq.cell? ⟨gq, 7, none⟩ = some (.int .u64 (vh : Int)) := hru.cell rfl
    have HV := hid hv; have HQ := hid hq; have HRU := hid hru; have HB := hid hb
    have hq64 : q ≤ 64 := by omega
    clear hv hq hru hb
    by_cases hqq : q < 64
    · have hqi : (q : Int) < 64 := by omega
      have hq0 : (0 : Int) ≤ (q : Int) := by omega
      clear hexit
      have H0 := hid hc0; have H1 := hid hc1; have H2 := hid hc2; have H3 := hid hc3; have H4 := hid hc4; have H5 := hid hc5; have H6 := hid hc6'; have H7 := hid hc7
      clear hc0 hc1 hc2 hc3 hc4 hc5 hc6' hc7
      go_wp2
      refine bits_loop gq cq va vb vc ve vf vg wq _ _ _ _ _ _ _ _ _ _ _ _ _ _ _ _ _ _ _ _ _ _ _ _ _ _ _ _ _ _ _ _ _ _ _ _ _ _ _ _ _ _ _ _ _ _ _ _ _ _ _ _ _ _ _ _ _ _ _ _ _ _ _ _ _ _ _ _ _ _ _ _ _ _ _ _ _ _ _ _ _ _ _ _ _ _ _ _ _ _ _ _ _ _ _ _ _ _ _ _ _ _ _ _ _ _ _ _ _ _ _ _ _ _ _ _ _ _ _ _ _ _ _ _ _ _ _ _ _ _ _ _ _ _ _ _ _ _ _ _ _ _ _ _ _ _ _ _ _ _ _ _ _ _ _ _ _ _ _ _ _ _ _ _ _ _ _ _ _ _ _ _ _ _ _ _ _ _ _ _ _ _ _ _ _ _ _ _ _ _ _ _ _ _ _ _ _ _ _ _ _ _ _ _ _ _ _ _ _ _ _ _ _ _ _ _ _ _ _ _ _ _ _ _ _ _ _ _ _ _ _ _ _ _ _ _ _ _ _ _ _ _ _ _ _ _ _ _ _ _ _ _ _ _ _ _ _ _ _ _ _ _ _ _ _ _ _ _ _ _ _ _ _ _ _ _ _ _ _ _ _ _ _ _ _ _ _ _ _ _ _ _ _ _ _ _ _ _ _ _ _ _ _ _ _ _ _ _ _ _ _ _ _ _ _ _ _ _ _ _ _ _ _ _ _ _ _ _ _ _ _ _ _ _ _ _ _ _ _ _ _ _ _ _ _ _ _ hcq1 h1 h2 h3 h5 h6 h7 H0.out H1.out H2.out H4.out H5.out H6.out ?_
      intro n u24 u25 u169 u170 u171 u172 u173 u174 u175 u176 u177 u178 u179 u180 u181 u182 u183 u184 u185 u186 u187 u188 u189 u190 u191 u192 u193 u194 u195 u196 u197 u198 u199 u200 u201 u202 u203 u204 u205 u206 u207 u208 u209 u210 u211 u212 u213 u214 u215 u216 u217 u218 u219 u220 u221 u222 u223 u224 u225
      obtain ⟨kq, hkq⟩ : ∃ k, k = K.getD q 0 := ⟨_, rfl⟩
      obtain ⟨xq, hxq⟩ : ∃ k, k = xs.getD q 0 := ⟨_, rfl⟩
      have hkql : kq < 4294967296 := by rw [hkq]; exact HKM.out q
      have hxql : xq < 4294967296 := by rw [hxq]; exact HXM.out q
      obtain ⟨w7, hw7⟩ : ∃ w7, w7 = wq.drewN n := ⟨_, rfl⟩
      have hc0 : w7.cell? ⟨gq, 0, none⟩ = some (.int .u64 (va : Int)) := by rw [hw7]; exact H0.out
      have hc3 : w7.cell? ⟨gq, 3, none⟩ = some (.int .u64 (vd : Int)) := by rw [hw7]; exact H3.out
      have hc4 : w7.cell? ⟨gq, 4, none⟩ = some (.int .u64 (ve : Int)) := by rw [hw7]; exact H4.out
      have hc7 : w7.cell? ⟨gq, 7, none⟩ = some (.int .u64 (vh : Int)) := by rw [hw7]; exact H7.out
      have hB7 : Below wt.heap.size wt w7 := by rw [hw7]; exact below_drewN HB.out n
      obtain ⟨bk, ok, rfl, hbk, hck⟩ := uvs_get (HKS.out.below hB7) (k := q) (by rw [HKL.out]; exact hqq)
      rw [← hkq] at hck
      have hcx : w7.cell? ⟨g6, q, none⟩ = some (.int .u64 (xq : Int)) := by
        have h := word_cell (HXS.out.below hB7) (k := q) (by rw [HXL.out]; exact hqq)
        rw [Nat.zero_add, ← hxq] at h; exact h
      rw [← hw7]
      have HB7 := hid hB7; have HW7 := hid hw7; have HKQ := hid hkq; have HXQ := hid hxq
      clear hw7 hB7 hkq hxq
      obtain ⟨ch, hch⟩ : ∃ c, c = chN ve vf vg := ⟨_, rfl⟩
      obtain ⟨mj, hmj⟩ : ∃ c, c = majN va vb vc := ⟨_, rfl⟩
      have hchl : ch < 4294967296 := by rw [hch]; exact chN_lt _ _ _ h5 h6 h7
      have hmjl : mj < 4294967296 := by rw [hmj]; exact majN_lt _ _ _ h2 h3
      rw [← hch, ← hmj]
      obtain ⟨x6, hx6⟩ : ∃ a, a = rotr ve 6 := ⟨_, rfl⟩
      obtain ⟨x11, hx11⟩ : ∃ a, a = rotr ve 11 := ⟨_, rfl⟩
      obtain ⟨x25, hx25⟩ : ∃ a, a = rotr ve 25 := ⟨_, rfl⟩
      obtain ⟨y2, hy2⟩ : ∃ a, a = rotr va 2 := ⟨_, rfl⟩
      obtain ⟨y13, hy13⟩ : ∃ a, a = rotr va 13 := ⟨_, rfl⟩
      obtain ⟨y22, hy22⟩ : ∃ a, a = rotr va 22 := ⟨_, rfl⟩
      have HT6 := hid (turnR_l ve 6 6 x6 h5 (by omega) rfl hx6)
      have HT11 := hid (turnR_l ve 11 11 x11 h5 (by omega) rfl hx11)
      have HT25 := hid (turnR_l ve 25 25 x25 h5 (by omega) rfl hx25)
      have HT2 := hid (turnR_l va 2 2 y2 h1 (by omega) rfl hy2)
      have HT13 := hid (turnR_l va 13 13 y13 h1 (by omega) rfl hy13)
      have HT22 := hid (turnR_l va 22 22 y22 h1 (by omega) rfl hy22)
      obtain ⟨a1, ha1⟩ : ∃ a, a = S1 ve := ⟨_, rfl⟩
      obtain ⟨a0, ha0⟩ : ∃ a, a = S0 va := ⟨_, rfl⟩
      have ha1l : a1 < 4294967296 := by rw [ha1]; exact S1_lt ve h5
      have ha0l : a0 < 4294967296 := by rw [ha0]; exact S0_lt va h1
      have e1 : bits .xor .u64 (bits .xor .u64 (x6 : Int) (x11 : Int)) (x25 : Int) = (a1 : Int) := by
        rw [xor3_u64 _ _ _ (by rw [hx6]; exact rotr_lt ve 6 h5 (by omega)) (by rw [hx11]; exact rotr_lt ve 11 h5 (by omega)) (by rw [hx25]; exact rotr_lt ve 25 h5 (by omega)), ha1, hx6, hx11, hx25]; rfl
      have e0 : bits .xor .u64 (bits .xor .u64 (y2 : Int) (y13 : Int)) (y22 : Int) = (a0 : Int) := by
        rw [xor3_u64 _ _ _ (by rw [hy2]; exact rotr_lt va 2 h1 (by omega)) (by rw [hy13]; exact rotr_lt va 13 h1 (by omega)) (by rw [hy22]; exact rotr_lt va 22 h1 (by omega)), ha0, hy2, hy13, hy22]; rfl
      obtain ⟨u1, hu1⟩ : ∃ u, u = vh + a1 := ⟨_, rfl⟩
      obtain ⟨u2, hu2⟩ : ∃ u, u = u1 + ch := ⟨_, rfl⟩
      obtain ⟨u3, hu3⟩ : ∃ u, u = u2 + kq := ⟨_, rfl⟩
      obtain ⟨u4, hu4⟩ : ∃ u, u = u3 + xq := ⟨_, rfl⟩
      obtain ⟨z2, hz2⟩ : ∃ u, u = a0 + mj := ⟨_, rfl⟩
      obtain ⟨u5, hu5⟩ : ∃ u, u = u4 + z2 := ⟨_, rfl⟩
      obtain ⟨u6, hu6⟩ : ∃ u, u = vd + u4 := ⟨_, rfl⟩
      obtain ⟨r1, hr1⟩ : ∃ r, r = u5 % 4294967296 := ⟨_, rfl⟩
      obtain ⟨r2, hr2⟩ : ∃ r, r = u6 % 4294967296 := ⟨_, rfl⟩
      have f1 : IntKind.u64.wrap ((vh : Int) + (a1 : Int)) = (u1 : Int) := by rw [IntKind.wrap_u64]; omega
      have f2 : IntKind.u64.wrap ((u1 : Int) + (ch : Int)) = (u2 : Int) := by rw [IntKind.wrap_u64]; omega
      have f3 : IntKind.u64.wrap ((u2 : Int) + (kq : Int)) = (u3 : Int) := by rw [IntKind.wrap_u64]; omega
      have f4 : IntKind.u64.wrap ((u3 : Int) + (xq : Int)) = (u4 : Int) := by rw [IntKind.wrap_u64]; omega
      have f5 : IntKind.u64.wrap ((a0 : Int) + (mj : Int)) = (z2 : Int) := by rw [IntKind.wrap_u64]; omega
      have f6 : IntKind.u64.wrap ((u4 : Int) + (z2 : Int)) = (u5 : Int) := by rw [IntKind.wrap_u64]; omega
      have f7 : IntKind.u64.wrap ((vd : Int) + (u4 : Int)) = (u6 : Int) := by rw [IntKind.wrap_u64]; omega
      have f8 : Int.tmod (u5 : Int) 4294967296 = (r1 : Int) := by rw [hr1]; exact (Int.ofNat_tmod u5 4294967296).symm
      have f9 : Int.tmod (u6 : Int) 4294967296 = (r2 : Int) := by rw [hr2]; exact (Int.ofNat_tmod u6 4294967296).symm
      have hnext : (⟨r1, va, vb, vc, r2, ve, vf, vg⟩ : St8) = rnd K xs v0 (q + 1) := by
        rw [rnd, ← HV.out, St8.step, t1N, t2N, ← HKQ.out, ← HXQ.out]
        simp only [hr1, hr2, hu5, hu6, hu4, hu3, hu2, hu1, hz2, ha0, ha1, hch, hmj]
      have HNEXT := hid hnext
      clear hx6 hx11 hx25 hy2 hy13 hy22 ha1 ha0 hu1 hu2 hu3 hu4 hz2 hu5 hu6 hr1 hr2 hnext hch hmj h1 h2 h3 h4 h5 h6 h7 h8 ha1l ha0l hchl hmjl hkql hxql
      have q1 : (q : Int) < ((64 : Nat) : Int) := by omega
      go_wp2
      go_quiet ((go_at_call 119; first | with_reducible exact HT6.out _ _ | with_reducible exact HT11.out _ _ | with_reducible exact HT25.out _ _))
      clear HT6 HT11 HT25 f1 f2 f3 f4 e1 hck hcx
      obtain ⟨wa, hwa⟩ : ∃ wa : World, wa = w7.drewN nq := ⟨_, rfl⟩
      replace hc0 : wa.cell? ⟨gq, 0, none⟩ = some (.int .u64 (va : Int)) := by rw [hwa]; exact hc0
      have HBA : Hid (Below wt.heap.size wt wa) := hid (by rw [hwa]; exact below_drewN HB7.out nq)
      have HRA : Hid (RowU wa gq (St8.list ⟨va, vb, vc, vd, ve, vf, vg, vh⟩)) := hid (HRU.out.keep (by rw [hwa, HW7.out]; rfl))
      rw [← hwa]
      clear hwa hc3 hc4 hc7 HW7 HB7
      go_wp2
      go_quiet ((go_at_call 119; first | with_reducible exact HT2.out _ _ | with_reducible exact HT13.out _ _ | with_reducible exact HT22.out _ _))
      clear HT2 HT13 HT22 f5 e0 hc0
      obtain ⟨wc, hwc⟩ : ∃ wc : World, wc = wa.drewN nq := ⟨_, rfl⟩
      have HBC : Hid (Below wt.heap.size wt wc) := hid (by rw [hwc]; exact below_drewN HBA.out nq)
      have HRC : Hid (RowU wc gq (St8.list ⟨va, vb, vc, vd, ve, vf, vg, vh⟩)) := hid (HRA.out.keep (by rw [hwc]; rfl))
      rw [← hwc]
      clear hwc HBA HRA
      have hd0 : wc.cell? ⟨gq, 0, none⟩ = some (.int .u64 (va : Int)) := HRC.out.cell rfl
      have hd1 : wc.cell? ⟨gq, 1, none⟩ = some (.int .u64 (vb : Int)) := HRC.out.cell rfl
      have hd2 : wc.cell? ⟨gq, 2, none⟩ = some (.int .u64 (vc : Int)) := HRC.out.cell rfl
      have hd3 : wc.cell? ⟨gq, 3, none⟩ = some (.int .u64 (vd : Int)) := HRC.out.cell rfl
      have hd4 : wc.cell? ⟨gq, 4, none⟩ = some (.int .u64 (ve : Int)) := HRC.out.cell rfl
      have hd5 : wc.cell? ⟨gq, 5, none⟩ = some (.int .u64 (vf : Int)) := HRC.out.cell rfl
      have hd6 : wc.cell? ⟨gq, 6, none⟩ = some (.int .u64 (vg : Int)) := HRC.out.cell rfl
      go_wp2
      refine wp_region_quiet_tail 28 (by kernel_rfl) (by kernel_rfl) ?_
      simp only [List.take_succ_cons, List.take_zero, List.drop_succ_cons, List.drop_zero]
      repeat (quiet_step (fail))
      refine wpQuiet_nil ?_
      rintro _ ⟨ne, rfl⟩
      clear hd0 hd1 hd2 hd3 hd4 hd5 hd6 f6 f7 f8 f9
      obtain ⟨we, hwe⟩ : ∃ we : World, we = wc.drewN ne := ⟨_, rfl⟩
      have HBE : Hid (Below wt.heap.size wt we) := hid (by rw [hwe]; exact below_drewN HBC.out ne)
      rw [← hwe]
      clear hwe HBC HRC
      go_wp2
      have hq := HQ.out
      go_roundg (64 - q - 1)
      case measure => omega
      case rel =>
        refine ⟨q + 1, we.heap.size, 8, by omega, by go_num, rfl, ?_, HBE.out.size, by omega, by omega, HBE.out.alloc HBE.out.size _⟩
        rw [← HNEXT.out]
        exact ⟨(uvs (St8.list ⟨r1, va, vb, vc, r2, ve, vf, vg⟩)).toArray, heap_alloc_new _ _, fun j x hx => by
          rw [List.getElem?_toArray, uvs, List.getElem?_map, hx]; rfl⟩
    · obtain rfl : q = 64 := by omega
      have hqi : ¬ ((64 : Nat) : Int) < 64 := by omega
      have hru := HRU.out
      rw [HV.out] at hru
      have HRU' := hid hru
      clear hru hc0 hc1 hc2 hc3 hc4 hc5 hc6' hc7
      go_wp2
      exact hexit gq cq wq _ _ _ _ _ _ _ _ _ _ _ _ _ _ _ _ _ _ _ _ _ _ _ _ _ _ _ _ _ _ _ _ _ _ _ _ _ _ _ _ _ _ _ _ _ _ _ _ _ _ _ _ _ _ _ _ _ _ _ _ _ _ _ _ _ _ _ _ _ _ _ _ _ _ _ _ _ _ _ _ _ _ _ _ _ _ _ _ _ _ _ _ _ _ _ _ _ _ _ _ _ _ _ _ _ _ _ _ _ _ _ _ _ _ _ _ _ _ _ _ _ _ _ _ _ _ _ _ _ _ _ _ _ _ _ _ _ _ _ _ _ _ _ HRU'.out hgq hcq1 hcq2 HB.out
end
section
open Go.RowKit
set_option linter.unusedVariables false
set_option linter.unusedSimpArgs false
/-- The first i of two states added, the rest of the first as it is. -/
def plusTo (s v : St8) (i : Nat) : List Nat := (s.plus v).list.take i ++ s.list.drop i
theorem plusTo_zero (s v : St8) : plusTo s v 0 = s.list := by simp [plusTo]
theorem plusTo_end (s v : St8) : plusTo s v 8 = (s.plus v).list := by simp [plusTo, St8.list]
theorem plusTo_length (s v : St8) (i : Nat) (h : i ≤ 8) : (plusTo s v i).length = 8 := by simp [plusTo]; omega
theorem plusTo_get (s v : St8) (i : Nat) (h : i < 8) : (plusTo s v i)[i]? = some (s.list.getD i 0) := by
  rw [plusTo, List.getElem?_append_right (by rw [List.length_take, St8.list_length]; omega), List.getElem?_drop]
  have : (List.take i (s.plus v).list).length = i := by rw [List.length_take, St8.list_length]; omega
  rw [this, Nat.sub_self, Nat.add_zero, List.getD_eq_getElem?_getD, List.getElem?_eq_getElem (by simpa using h)]; rfl
theorem plusN_get (s v : St8) (i : Nat) (h : i < 8) : (s.plus v).list[i]? = some ((s.list.getD i 0 + v.list.getD i 0) % 4294967296) := by
  have : i = 0 ∨ i = 1 ∨ i = 2 ∨ i = 3 ∨ i = 4 ∨ i = 5 ∨ i = 6 ∨ i = 7 := by omega
  rcases this with rfl | rfl | rfl | rfl | rfl | rfl | rfl | rfl <;> rfl
theorem plusTo_next (s v : St8) (i r : Nat) (h : i < 8) (hr : r = (s.list.getD i 0 + v.list.getD i 0) % 4294967296) : (plusTo s v i).set i r = plusTo s v (i + 1) := by
  have hl : (List.take i (s.plus v).list).length = i := by rw [List.length_take, St8.list_length]; omega
  have h1 : (s.plus v).list.take (i + 1) = (s.plus v).list.take i ++ [r] := by
    rw [List.take_succ_eq_append_getElem (by simpa using h)]
    congr 2
    have := plusN_get s v i h
    rw [List.getElem?_eq_getElem (by simpa using h)] at this
    injection this with this
    rw [this, hr]
  have h2 : s.list.drop i = s.list[i]'(by simpa using h) :: s.list.drop (i + 1) := List.drop_eq_getElem_cons (by simpa using h)
  rw [plusTo, plusTo, h1, List.set_append_right _ _ (by omega), hl, Nat.sub_self, h2, List.set_cons_zero, List.append_assoc]
  rfl
theorem list_lt (s : St8) (hs : s.ok) (i : Nat) : s.list.getD i 0 < 4294967296 := by
  obtain ⟨h1, h2, h3, h4, h5, h6, h7, h8⟩ := hs
  by_cases h : i < 8
  · have : i = 0 ∨ i = 1 ∨ i = 2 ∨ i = 3 ∨ i = 4 ∨ i = 5 ∨ i = 6 ∨ i = 7 := by omega
    rcases this with rfl | rfl | rfl | rfl | rfl | rfl | rfl | rfl <;> assumption
  · rw [List.getD_eq_getElem?_getD, List.getElem?_eq_none (by simp; omega)]; decide
set_option maxRecDepth 100000 in
set_option maxHeartbeats 4000000 in
theorem plus_loop {Q : Exit → Act → World → Prop} (gh ch gq cq : Nat) (s v : St8) (w0 : World) (t0 t1 t2 t3 t4 t5 t6 t8 t9 t10 t11 t12 t13 t14 t15 t16 t17 t18 t19 t21 t22 t23 t24 t25 t26 t27 t29 t30 t31 t32 t33 t34 t35 t36 t37 t38 t39 t40 t41 t42 t43 t44 t45 t46 t47 t48 t49 t50 t51 t52 t53 t54 t55 t56 t57 t58 t59 t60 t61 t62 t63 t64 t65 t66 t67 t68 t69 t70 t71 t72 t73 t74 t75 t76 t77 t78 t79 t80 t81 t82 t83 t84 t85 t86 t87 t88 t89 t90 t91 t92 t93 t94 t95 t96 t97 t98 t99 t100 t101 t102 t103 t104 t105 t106 t107 t108 t109 t110 t111 t112 t113 t114 t115 t116 t117 t118 t119 t120 t121 t122 t123 t124 t125 t126 t127 t128 t129 t130 t131 t132 t133 t134 t135 t136 t137 t138 t139 t140 t141 t142 t143 t144 t145 t146 t147 t148 t149 t150 t151 t152 t153 t154 t155 t156 t157 t158 t159 t160 t161 t162 t163 t164 t165 t166 t167 t168 t169 t170 t171 t172 t173 t174 t175 t176 t177 t178 t179 t180 t181 t182 t183 t184 t185 t186 t187 t188 t189 t190 t191 t192 t193 t194 t195 t196 t197 t198 t199 t200 t201 t202 t203 t204 t205 t206 t207 t208 t209 t210 t211 t212 t213 t214 t215 t216 t217 t218 t219 t220 t221 t222 t223 t224 t225 t226 t227 t228 t229 t230 t231 t232 t233 t234 t235 t236 t237 t238 t239 t240 t241 t242 t243 t244 t245 t246 t247 t248 t249 t250 t251 t252 t253 t254 t255 t256 t257 t258 t259 t260 t261 t262 t263 t264 t265 t266 t267 t268 t269 t270 t271 t272 t273 t274 t275 t276 t277 t278 t279 t280 t281 t282 t283 t284 t285 t286 t287 t288 t289 t290 t291 t292 t293 t294 t295 t296 t297 t298 t299 t300 t301 t302 t303 t304 t305 t306 t307 t308 t309 t310 t311 t312 t313 t314 t315 t316 t317 t318 t319 t320 t321 t322 t323 t324 t325 t326 t327 t328 t329 t330 t331 t332 t333 t334 t335 t336 t337 t338 t339 t340 t341 t342 t343 t344 t345 t346 t347 t348 t349 t350 t351 : Value)
    (hs : s.ok) (hv : v.ok) (hch : 8 ≤ ch) (hcq : 8 ≤ cq) (hne : gh ≠ gq) (hrs : RowU w0 gh s.list) (hrv : RowU w0 gq v.list)
    (hexit : ∀ (w' : World) (u28 u301 u302 u303 u304 u305 u306 u307 u308 u309 u310 u311 u312 u313 u314 u315 u316 u317 : Value), RowU w' gh (s.plus v).list → w0.grownBy w' (some gh) → Q (.exit 16) ⟨(t0 :: t1 :: t2 :: t3 :: t4 :: t5 :: t6 :: (.slice (some ⟨gh, 0, none⟩) 8 ch) :: t8 :: t9 :: t10 :: t11 :: t12 :: t13 :: t14 :: t15 :: t16 :: t17 :: t18 :: t19 :: (.slice (some ⟨gq, 0, none⟩) 8 cq) :: t21 :: t22 :: t23 :: t24 :: t25 :: t26 :: t27 :: u28 :: t29 :: t30 :: t31 :: t32 :: t33 :: t34 :: t35 :: t36 :: t37 :: t38 :: t39 :: t40 :: t41 :: t42 :: t43 :: t44 :: t45 :: t46 :: t47 :: t48 :: t49 :: t50 :: t51 :: t52 :: t53 :: t54 :: t55 :: t56 :: t57 :: t58 :: t59 :: t60 :: t61 :: t62 :: t63 :: t64 :: t65 :: t66 :: t67 :: t68 :: t69 :: t70 :: t71 :: t72 :: t73 :: t74 :: t75 :: t76 :: t77 :: t78 :: t79 :: t80 :: t81 :: t82 :: t83 :: t84 :: t85 :: t86 :: t87 :: t88 :: t89 :: t90 :: t91 :: t92 :: t93 :: t94 :: t95 :: t96 :: t97 :: t98 :: t99 :: t100 :: t101 :: t102 :: t103 :: t104 :: t105 :: t106 :: t107 :: t108 :: t109 :: t110 :: t111 :: t112 :: t113 :: t114 :: t115 :: t116 :: t117 :: t118 :: t119 :: t120 :: t121 :: t122 :: t123 :: t124 :: t125 :: t126 :: t127 :: t128 :: t129 :: t130 :: t131 :: t132 :: t133 :: t134 :: t135 :: t136 :: t137 :: t138 :: t139 :: t140 :: t141 :: t142 :: t143 :: t144 :: t145 :: t146 :: t147 :: t148 :: t149 :: t150 :: t151 :: t152 :: t153 :: t154 :: t155 :: t156 :: t157 :: t158 :: t159 :: t160 :: t161 :: t162 :: t163 :: t164 :: t165 :: t166 :: t167 :: t168 :: t169 :: t170 :: t171 :: t172 :: t173 :: t174 :: t175 :: t176 :: t177 :: t178 :: t179 :: t180 :: t181 :: t182 :: t183 :: t184 :: t185 :: t186 :: t187 :: t188 :: t189 :: t190 :: t191 :: t192 :: t193 :: t194 :: t195 :: t196 :: t197 :: t198 :: t199 :: t200 :: t201 :: t202 :: t203 :: t204 :: t205 :: t206 :: t207 :: t208 :: t209 :: t210 :: t211 :: t212 :: t213 :: t214 :: t215 :: t216 :: t217 :: t218 :: t219 :: t220 :: t221 :: t222 :: t223 :: t224 :: t225 :: t226 :: t227 :: t228 :: t229 :: t230 :: t231 :: t232 :: t233 :: t234 :: t235 :: t236 :: t237 :: t238 :: t239 :: t240 :: t241 :: t242 :: t243 :: t244 :: t245 :: t246 :: t247 :: t248 :: t249 :: t250 :: t251 :: t252 :: t253 :: t254 :: t255 :: t256 :: t257 :: t258 :: t259 :: t260 :: t261 :: t262 :: t263 :: t264 :: t265 :: t266 :: t267 :: t268 :: t269 :: t270 :: t271 :: t272 :: t273 :: t274 :: t275 :: t276 :: t277 :: t278 :: t279 :: t280 :: t281 :: t282 :: t283 :: t284 :: t285 :: t286 :: t287 :: t288 :: t289 :: t290 :: t291 :: t292 :: t293 :: t294 :: t295 :: t296 :: t297 :: t298 :: t299 :: t300 :: u301 :: u302 :: u303 :: u304 :: u305 :: u306 :: u307 :: u308 :: u309 :: u310 :: u311 :: u312 :: u313 :: u314 :: u315 :: u316 :: u317 :: t318 :: t319 :: t320 :: t321 :: t322 :: t323 :: t324 :: t325 :: t326 :: t327 :: t328 :: t329 :: t330 :: t331 :: t332 :: t333 :: t334 :: t335 :: t336 :: t337 :: t338 :: t339 :: t340 :: t341 :: t342 :: t343 :: t344 :: t345 :: t346 :: t347 :: t348 :: t349 :: t350 :: t351 :: []).toArray, []⟩ w') :
    Code.wp Tryz.prog (Code.loop (loopN Tryz.f98 8)) Q ⟨(t0 :: t1 :: t2 :: t3 :: t4 :: t5 :: t6 :: (.slice (some ⟨gh, 0, none⟩) 8 ch) :: t8 :: t9 :: t10 :: t11 :: t12 :: t13 :: t14 :: t15 :: t16 :: t17 :: t18 :: t19 :: (.slice (some ⟨gq, 0, none⟩) 8 cq) :: t21 :: t22 :: t23 :: t24 :: t25 :: t26 :: t27 :: (.int .i64 0) :: t29 :: t30 :: t31 :: t32 :: t33 :: t34 :: t35 :: t36 :: t37 :: t38 :: t39 :: t40 :: t41 :: t42 :: t43 :: t44 :: t45 :: t46 :: t47 :: t48 :: t49 :: t50 :: t51 :: t52 :: t53 :: t54 :: t55 :: t56 :: t57 :: t58 :: t59 :: t60 :: t61 :: t62 :: t63 :: t64 :: t65 :: t66 :: t67 :: t68 :: t69 :: t70 :: t71 :: t72 :: t73 :: t74 :: t75 :: t76 :: t77 :: t78 :: t79 :: t80 :: t81 :: t82 :: t83 :: t84 :: t85 :: t86 :: t87 :: t88 :: t89 :: t90 :: t91 :: t92 :: t93 :: t94 :: t95 :: t96 :: t97 :: t98 :: t99 :: t100 :: t101 :: t102 :: t103 :: t104 :: t105 :: t106 :: t107 :: t108 :: t109 :: t110 :: t111 :: t112 :: t113 :: t114 :: t115 :: t116 :: t117 :: t118 :: t119 :: t120 :: t121 :: t122 :: t123 :: t124 :: t125 :: t126 :: t127 :: t128 :: t129 :: t130 :: t131 :: t132 :: t133 :: t134 :: t135 :: t136 :: t137 :: t138 :: t139 :: t140 :: t141 :: t142 :: t143 :: t144 :: t145 :: t146 :: t147 :: t148 :: t149 :: t150 :: t151 :: t152 :: t153 :: t154 :: t155 :: t156 :: t157 :: t158 :: t159 :: t160 :: t161 :: t162 :: t163 :: t164 :: t165 :: t166 :: t167 :: t168 :: t169 :: t170 :: t171 :: t172 :: t173 :: t174 :: t175 :: t176 :: t177 :: t178 :: t179 :: t180 :: t181 :: t182 :: t183 :: t184 :: t185 :: t186 :: t187 :: t188 :: t189 :: t190 :: t191 :: t192 :: t193 :: t194 :: t195 :: t196 :: t197 :: t198 :: t199 :: t200 :: t201 :: t202 :: t203 :: t204 :: t205 :: t206 :: t207 :: t208 :: t209 :: t210 :: t211 :: t212 :: t213 :: t214 :: t215 :: t216 :: t217 :: t218 :: t219 :: t220 :: t221 :: t222 :: t223 :: t224 :: t225 :: t226 :: t227 :: t228 :: t229 :: t230 :: t231 :: t232 :: t233 :: t234 :: t235 :: t236 :: t237 :: t238 :: t239 :: t240 :: t241 :: t242 :: t243 :: t244 :: t245 :: t246 :: t247 :: t248 :: t249 :: t250 :: t251 :: t252 :: t253 :: t254 :: t255 :: t256 :: t257 :: t258 :: t259 :: t260 :: t261 :: t262 :: t263 :: t264 :: t265 :: t266 :: t267 :: t268 :: t269 :: t270 :: t271 :: t272 :: t273 :: t274 :: t275 :: t276 :: t277 :: t278 :: t279 :: t280 :: t281 :: t282 :: t283 :: t284 :: t285 :: t286 :: t287 :: t288 :: t289 :: t290 :: t291 :: t292 :: t293 :: t294 :: t295 :: t296 :: t297 :: t298 :: t299 :: t300 :: t301 :: t302 :: t303 :: t304 :: t305 :: t306 :: t307 :: t308 :: t309 :: t310 :: t311 :: t312 :: t313 :: t314 :: t315 :: t316 :: t317 :: t318 :: t319 :: t320 :: t321 :: t322 :: t323 :: t324 :: t325 :: t326 :: t327 :: t328 :: t329 :: t330 :: t331 :: t332 :: t333 :: t334 :: t335 :: t336 :: t337 :: t338 :: t339 :: t340 :: t341 :: t342 :: t343 :: t344 :: t345 :: t346 :: t347 :: t348 :: t349 :: t350 :: t351 :: []).toArray, []⟩ w0 := by
  conv => arg 2; arg 1; whnf
  have HS := hid hs; have HV := hid hv; have HRV := hid hrv
  have hrs0 : RowU w0 gh (plusTo s v 0) := by rw [plusTo_zero]; exact hrs
  clear hs hv hrv
  go_loopg [28] 8 (fun g i wr => ∃ n : Nat, n + g = 8 ∧ i = .int .i64 (n : Int) ∧ RowU wr gh (plusTo s v n) ∧ w0.grownBy wr (some gh))
  case atStart => exact ⟨0, rfl, rfl, hrs0, World.grownBy.refl _ _⟩
  case round =>
    clear hrs hrs0
    obtain ⟨n, hn, rfl, hr, hg⟩ := hrel
    obtain ⟨wq, rfl⟩ : ∃ wq : World, wq = wr := ⟨_, rfl⟩
    have HN := hid hn; have HR := hid hr; have HG := hid hg
    have hn8 : n ≤ 8 := by omega
    clear hn hr hg
    by_cases hlt : n < 8
    · have hni : (n : Int) < 8 := by omega
      have hn0 : (0 : Int) ≤ (n : Int) := by omega
      clear hexit
      have hrv := HRV.out.keep (HG.out.block gq HRV.out.lt (by simpa using fun e => hne e.symm))
      obtain ⟨x, hx⟩ : ∃ x, x = s.list.getD n 0 := ⟨_, rfl⟩
      obtain ⟨y, hy⟩ : ∃ y, y = v.list.getD n 0 := ⟨_, rfl⟩
      have hxl : x < 4294967296 := by rw [hx]; exact list_lt s HS.out n
      have hyl : y < 4294967296 := by rw [hy]; exact list_lt v HV.out n
      have hcx : wq.cell? ⟨gh, n, none⟩ = some (.int .u64 (x : Int)) := HR.out.cell (by rw [plusTo_get s v n hlt, hx])
      have hcy : wq.cell? ⟨gq, n, none⟩ = some (.int .u64 (y : Int)) := hrv.cell (by rw [hy, List.getD_eq_getElem?_getD, List.getElem?_eq_getElem (by simpa using hlt)]; rfl)
      have hfz := HR.out.frz n
      obtain ⟨u1, hu1⟩ : ∃ u, u = x + y := ⟨_, rfl⟩
      obtain ⟨r, hr⟩ : ∃ r, r = u1 % 4294967296 := ⟨_, rfl⟩
      have f1 : IntKind.u64.wrap ((x : Int) + (y : Int)) = (u1 : Int) := by rw [IntKind.wrap_u64]; omega
      have f2 : Int.tmod (u1 : Int) 4294967296 = (r : Int) := by rw [hr]; exact (Int.ofNat_tmod u1 4294967296).symm
      have hnext : (plusTo s v n).set n r = plusTo s v (n + 1) := plusTo_next s v n r hlt (by rw [hr, hu1, hx, hy])
      have HNEXT := hid hnext
      have hset := HR.out.set n r (by rw [plusTo_length s v n hn8]; exact hlt)
      rw [hnext] at hset
      clear hx hy hu1 hr hnext hrv hset hxl hyl
      go_wp2
      refine wp_region_quiet_tail 13 (by kernel_rfl) (by kernel_rfl) ?_
      simp only [List.take_succ_cons, List.take_zero, List.drop_succ_cons, List.drop_zero]
      repeat (quiet_step (fail))
      refine wpQuiet_nil ?_
      rintro _ ⟨ne, rfl⟩
      go_wp2
      have hn := HN.out
      go_roundg (8 - n - 1)
      case measure => omega
      case rel =>
        refine ⟨n + 1, by omega, by go_num, ?_, ?_⟩
        · rw [← HNEXT.out]
          exact RowU.set (w := wq.drewN ne) (HR.out.keep rfl) n r (by rw [plusTo_length s v n hn8]; exact hlt)
        · have hgd : w0.grownBy (wq.drewN ne) (some gh) := ⟨HG.out.os, HG.out.tape, HG.out.output, HG.out.size, HG.out.block⟩
          exact grown_step hgd (.inl rfl) (grown_setCell _ _ _ _ _)
    · obtain rfl : n = 8 := by omega
      have hni : ¬ ((8 : Nat) : Int) < 8 := by omega
      have hr8 := HR.out
      rw [plusTo_end] at hr8
      have HR8 := hid hr8
      clear hr8 HR
      go_wp2
      exact hexit wq _ _ _ _ _ _ _ _ _ _ _ _ _ _ _ _ _ _ HR8.out HG.out
end
section
open Go.RowKit
set_option linter.unusedVariables false
set_option linter.unusedSimpArgs false
set_option maxRecDepth 100000 in
set_option maxHeartbeats 4000000 in
theorem out_loop {Q : Exit → Act → World → Prop} (gh ch : Nat) (s : St8) (w0 : World) (t0 t1 t2 t3 t4 t5 t6 t8 t9 t10 t11 t12 t13 t14 t15 t16 t17 t18 t19 t20 t21 t22 t23 t24 t25 t26 t27 t28 t31 t32 t33 t34 t35 t36 t37 t38 t39 t40 t41 t42 t43 t44 t45 t46 t47 t48 t49 t50 t51 t52 t53 t54 t55 t56 t57 t58 t59 t60 t61 t62 t63 t64 t65 t66 t67 t68 t69 t70 t71 t72 t73 t74 t75 t76 t77 t78 t79 t80 t81 t82 t83 t84 t85 t86 t87 t88 t89 t90 t91 t92 t93 t94 t95 t96 t97 t98 t99 t100 t101 t102 t103 t104 t105 t106 t107 t108 t109 t110 t111 t112 t113 t114 t115 t116 t117 t118 t119 t120 t121 t122 t123 t124 t125 t126 t127 t128 t129 t130 t131 t132 t133 t134 t135 t136 t137 t138 t139 t140 t141 t142 t143 t144 t145 t146 t147 t148 t149 t150 t151 t152 t153 t154 t155 t156 t157 t158 t159 t160 t161 t162 t163 t164 t165 t166 t167 t168 t169 t170 t171 t172 t173 t174 t175 t176 t177 t178 t179 t180 t181 t182 t183 t184 t185 t186 t187 t188 t189 t190 t191 t192 t193 t194 t195 t196 t197 t198 t199 t200 t201 t202 t203 t204 t205 t206 t207 t208 t209 t210 t211 t212 t213 t214 t215 t216 t217 t218 t219 t220 t221 t222 t223 t224 t225 t226 t227 t228 t229 t230 t231 t232 t233 t234 t235 t236 t237 t238 t239 t240 t241 t242 t243 t244 t245 t246 t247 t248 t249 t250 t251 t252 t253 t254 t255 t256 t257 t258 t259 t260 t261 t262 t263 t264 t265 t266 t267 t268 t269 t270 t271 t272 t273 t274 t275 t276 t277 t278 t279 t280 t281 t282 t283 t284 t285 t286 t287 t288 t289 t290 t291 t292 t293 t294 t295 t296 t297 t298 t299 t300 t301 t302 t303 t304 t305 t306 t307 t308 t309 t310 t311 t312 t313 t314 t315 t316 t317 t318 t319 t320 t321 t322 t323 t324 t325 t326 t327 t328 t329 t330 t331 t332 t333 t334 t335 t336 t337 t338 t339 t340 t341 t342 t343 t344 t345 t346 t347 t348 t349 t350 t351 : Value)
    (hpan : ∀ c (a : Act) (k : Tmp) (x : Value) (w : World), Q (.panic c) (a.put (some k) x) w → Q (.panic c) a w) (hs : s.ok) (hch : 8 ≤ ch) (hrs : RowU w0 gh s.list)
    (hexit : ∀ (v : Value) (w' : World) (u30 u318 u319 u320 u321 u322 u323 u324 u325 u326 u327 u328 u329 u330 u331 u332 u333 u334 u335 u336 u337 u338 u339 u340 u341 u342 u343 u344 u345 u346 u347 u348 u349 u350 : Value), OwnB w' w0.heap.size v s.bytes → Below w0.heap.size w0 w' → Q (.exit 18) ⟨(t0 :: t1 :: t2 :: t3 :: t4 :: t5 :: t6 :: (.slice (some ⟨gh, 0, none⟩) 8 ch) :: t8 :: t9 :: t10 :: t11 :: t12 :: t13 :: t14 :: t15 :: t16 :: t17 :: t18 :: t19 :: t20 :: t21 :: t22 :: t23 :: t24 :: t25 :: t26 :: t27 :: t28 :: v :: u30 :: t31 :: t32 :: t33 :: t34 :: t35 :: t36 :: t37 :: t38 :: t39 :: t40 :: t41 :: t42 :: t43 :: t44 :: t45 :: t46 :: t47 :: t48 :: t49 :: t50 :: t51 :: t52 :: t53 :: t54 :: t55 :: t56 :: t57 :: t58 :: t59 :: t60 :: t61 :: t62 :: t63 :: t64 :: t65 :: t66 :: t67 :: t68 :: t69 :: t70 :: t71 :: t72 :: t73 :: t74 :: t75 :: t76 :: t77 :: t78 :: t79 :: t80 :: t81 :: t82 :: t83 :: t84 :: t85 :: t86 :: t87 :: t88 :: t89 :: t90 :: t91 :: t92 :: t93 :: t94 :: t95 :: t96 :: t97 :: t98 :: t99 :: t100 :: t101 :: t102 :: t103 :: t104 :: t105 :: t106 :: t107 :: t108 :: t109 :: t110 :: t111 :: t112 :: t113 :: t114 :: t115 :: t116 :: t117 :: t118 :: t119 :: t120 :: t121 :: t122 :: t123 :: t124 :: t125 :: t126 :: t127 :: t128 :: t129 :: t130 :: t131 :: t132 :: t133 :: t134 :: t135 :: t136 :: t137 :: t138 :: t139 :: t140 :: t141 :: t142 :: t143 :: t144 :: t145 :: t146 :: t147 :: t148 :: t149 :: t150 :: t151 :: t152 :: t153 :: t154 :: t155 :: t156 :: t157 :: t158 :: t159 :: t160 :: t161 :: t162 :: t163 :: t164 :: t165 :: t166 :: t167 :: t168 :: t169 :: t170 :: t171 :: t172 :: t173 :: t174 :: t175 :: t176 :: t177 :: t178 :: t179 :: t180 :: t181 :: t182 :: t183 :: t184 :: t185 :: t186 :: t187 :: t188 :: t189 :: t190 :: t191 :: t192 :: t193 :: t194 :: t195 :: t196 :: t197 :: t198 :: t199 :: t200 :: t201 :: t202 :: t203 :: t204 :: t205 :: t206 :: t207 :: t208 :: t209 :: t210 :: t211 :: t212 :: t213 :: t214 :: t215 :: t216 :: t217 :: t218 :: t219 :: t220 :: t221 :: t222 :: t223 :: t224 :: t225 :: t226 :: t227 :: t228 :: t229 :: t230 :: t231 :: t232 :: t233 :: t234 :: t235 :: t236 :: t237 :: t238 :: t239 :: t240 :: t241 :: t242 :: t243 :: t244 :: t245 :: t246 :: t247 :: t248 :: t249 :: t250 :: t251 :: t252 :: t253 :: t254 :: t255 :: t256 :: t257 :: t258 :: t259 :: t260 :: t261 :: t262 :: t263 :: t264 :: t265 :: t266 :: t267 :: t268 :: t269 :: t270 :: t271 :: t272 :: t273 :: t274 :: t275 :: t276 :: t277 :: t278 :: t279 :: t280 :: t281 :: t282 :: t283 :: t284 :: t285 :: t286 :: t287 :: t288 :: t289 :: t290 :: t291 :: t292 :: t293 :: t294 :: t295 :: t296 :: t297 :: t298 :: t299 :: t300 :: t301 :: t302 :: t303 :: t304 :: t305 :: t306 :: t307 :: t308 :: t309 :: t310 :: t311 :: t312 :: t313 :: t314 :: t315 :: t316 :: t317 :: u318 :: u319 :: u320 :: u321 :: u322 :: u323 :: u324 :: u325 :: u326 :: u327 :: u328 :: u329 :: u330 :: u331 :: u332 :: u333 :: u334 :: u335 :: u336 :: u337 :: u338 :: u339 :: u340 :: u341 :: u342 :: u343 :: u344 :: u345 :: u346 :: u347 :: u348 :: u349 :: u350 :: t351 :: []).toArray, []⟩ w') :
    Code.wp Tryz.prog (Code.loop (loopN Tryz.f98 9)) Q ⟨(t0 :: t1 :: t2 :: t3 :: t4 :: t5 :: t6 :: (.slice (some ⟨gh, 0, none⟩) 8 ch) :: t8 :: t9 :: t10 :: t11 :: t12 :: t13 :: t14 :: t15 :: t16 :: t17 :: t18 :: t19 :: t20 :: t21 :: t22 :: t23 :: t24 :: t25 :: t26 :: t27 :: t28 :: (.slice none 0 0) :: (.int .i64 0) :: t31 :: t32 :: t33 :: t34 :: t35 :: t36 :: t37 :: t38 :: t39 :: t40 :: t41 :: t42 :: t43 :: t44 :: t45 :: t46 :: t47 :: t48 :: t49 :: t50 :: t51 :: t52 :: t53 :: t54 :: t55 :: t56 :: t57 :: t58 :: t59 :: t60 :: t61 :: t62 :: t63 :: t64 :: t65 :: t66 :: t67 :: t68 :: t69 :: t70 :: t71 :: t72 :: t73 :: t74 :: t75 :: t76 :: t77 :: t78 :: t79 :: t80 :: t81 :: t82 :: t83 :: t84 :: t85 :: t86 :: t87 :: t88 :: t89 :: t90 :: t91 :: t92 :: t93 :: t94 :: t95 :: t96 :: t97 :: t98 :: t99 :: t100 :: t101 :: t102 :: t103 :: t104 :: t105 :: t106 :: t107 :: t108 :: t109 :: t110 :: t111 :: t112 :: t113 :: t114 :: t115 :: t116 :: t117 :: t118 :: t119 :: t120 :: t121 :: t122 :: t123 :: t124 :: t125 :: t126 :: t127 :: t128 :: t129 :: t130 :: t131 :: t132 :: t133 :: t134 :: t135 :: t136 :: t137 :: t138 :: t139 :: t140 :: t141 :: t142 :: t143 :: t144 :: t145 :: t146 :: t147 :: t148 :: t149 :: t150 :: t151 :: t152 :: t153 :: t154 :: t155 :: t156 :: t157 :: t158 :: t159 :: t160 :: t161 :: t162 :: t163 :: t164 :: t165 :: t166 :: t167 :: t168 :: t169 :: t170 :: t171 :: t172 :: t173 :: t174 :: t175 :: t176 :: t177 :: t178 :: t179 :: t180 :: t181 :: t182 :: t183 :: t184 :: t185 :: t186 :: t187 :: t188 :: t189 :: t190 :: t191 :: t192 :: t193 :: t194 :: t195 :: t196 :: t197 :: t198 :: t199 :: t200 :: t201 :: t202 :: t203 :: t204 :: t205 :: t206 :: t207 :: t208 :: t209 :: t210 :: t211 :: t212 :: t213 :: t214 :: t215 :: t216 :: t217 :: t218 :: t219 :: t220 :: t221 :: t222 :: t223 :: t224 :: t225 :: t226 :: t227 :: t228 :: t229 :: t230 :: t231 :: t232 :: t233 :: t234 :: t235 :: t236 :: t237 :: t238 :: t239 :: t240 :: t241 :: t242 :: t243 :: t244 :: t245 :: t246 :: t247 :: t248 :: t249 :: t250 :: t251 :: t252 :: t253 :: t254 :: t255 :: t256 :: t257 :: t258 :: t259 :: t260 :: t261 :: t262 :: t263 :: t264 :: t265 :: t266 :: t267 :: t268 :: t269 :: t270 :: t271 :: t272 :: t273 :: t274 :: t275 :: t276 :: t277 :: t278 :: t279 :: t280 :: t281 :: t282 :: t283 :: t284 :: t285 :: t286 :: t287 :: t288 :: t289 :: t290 :: t291 :: t292 :: t293 :: t294 :: t295 :: t296 :: t297 :: t298 :: t299 :: t300 :: t301 :: t302 :: t303 :: t304 :: t305 :: t306 :: t307 :: t308 :: t309 :: t310 :: t311 :: t312 :: t313 :: t314 :: t315 :: t316 :: t317 :: t318 :: t319 :: t320 :: t321 :: t322 :: t323 :: t324 :: t325 :: t326 :: t327 :: t328 :: t329 :: t330 :: t331 :: t332 :: t333 :: t334 :: t335 :: t336 :: t337 :: t338 :: t339 :: t340 :: t341 :: t342 :: t343 :: t344 :: t345 :: t346 :: t347 :: t348 :: t349 :: t350 :: t351 :: []).toArray, []⟩ w0 := by
  conv => arg 2; arg 1; whnf
  have HS := hid hs; have HRS := hid hrs
  clear hs hrs
  go_loopg [29, 30] 8 (fun g v i wr => ∃ n : Nat, n + g = 8 ∧ i = .int .i64 (n : Int) ∧ OwnB wr w0.heap.size v (s.bytesTo n) ∧ Below w0.heap.size w0 wr)
  case atStart => exact ⟨0, rfl, rfl, ⟨rfl, .inl ⟨rfl, rfl⟩⟩, Below.refl _ _⟩
  case round =>
    obtain ⟨n, hn, rfl, ho, hb⟩ := hrel
    obtain ⟨wq, rfl⟩ : ∃ wq : World, wq = wr := ⟨_, rfl⟩
    have hn8 : n ≤ 8 := by omega
    obtain ⟨zs, hzs⟩ : ∃ zs, zs = s.bytesTo n := ⟨_, rfl⟩
    rw [← hzs] at ho
    have hzl : zs.length = 4 * n := by rw [hzs]; exact St8.bytesTo_length s n hn8
    have HN := hid hn; have HB := hid hb; have HZS := hid hzs; have HZL := hid hzl; have HO := hid ho
    clear hn hb hzs hzl ho
    by_cases hlt : n < 8
    · have hni : (n : Int) < 8 := by omega
      have hn0 : (0 : Int) ≤ (n : Int) := by omega
      clear hexit
      obtain ⟨A5, c5, rfl, hS5⟩ := own_sl HO.out
      have hrv := HRS.out.keep (HB.out.block gh HRS.out.lt)
      obtain ⟨x, hx⟩ : ∃ x, x = s.list.getD n 0 := ⟨_, rfl⟩
      have hxl : x < 4294967296 := by rw [hx]; exact list_lt s HS.out n
      have hxg : s.list[n]? = some x := by rw [hx, List.getD_eq_getElem?_getD, List.getElem?_eq_getElem (by simpa using hlt)]; rfl
      have hcx : wq.cell? ⟨gh, n, none⟩ = some (.int .u64 (x : Int)) := hrv.cell hxg
      have HXG := hid hxg; have HZ5 : Hid (zs.length ≤ 28) := hid (by rw [HZL.out]; omega)
      obtain ⟨y0, hy0⟩ : ∃ y, y = x / 16777216 := ⟨_, rfl⟩
      obtain ⟨y1, hy1⟩ : ∃ y, y = x / 65536 := ⟨_, rfl⟩
      obtain ⟨y2, hy2⟩ : ∃ y, y = x / 256 := ⟨_, rfl⟩
      obtain ⟨b1, hb1⟩ : ∃ b, b = y1 % 256 := ⟨_, rfl⟩
      obtain ⟨b2, hb2⟩ : ∃ b, b = y2 % 256 := ⟨_, rfl⟩
      obtain ⟨b3, hb3⟩ : ∃ b, b = x % 256 := ⟨_, rfl⟩
      have g0 : IntKind.u64.wrap ((x : Int) / 16777216) = (y0 : Int) := by rw [IntKind.wrap_u64]; omega
      have g1 : IntKind.u64.wrap ((x : Int) / 65536) = (y1 : Int) := by rw [IntKind.wrap_u64]; omega
      have g2 : IntKind.u64.wrap ((x : Int) / 256) = (y2 : Int) := by rw [IntKind.wrap_u64]; omega
      have g3 : (y0 : Int) % 256 = (y0 : Int) := by omega
      have g4 : Int.tmod (y1 : Int) 256 = (b1 : Int) := by rw [hb1]; exact (Int.ofNat_tmod y1 256).symm
      have g5 : Int.tmod (y2 : Int) 256 = (b2 : Int) := by rw [hb2]; exact (Int.ofNat_tmod y2 256).symm
      have g6 : Int.tmod (x : Int) 256 = (b3 : Int) := by rw [hb3]; exact (Int.ofNat_tmod x 256).symm
      have g7 : (x : Int) % 256 = (b3 : Int) := by omega
      have g8 : (b1 : Int) % 256 = (b1 : Int) := by omega
      have g9 : (b2 : Int) % 256 = (b2 : Int) := by omega
      have ga : (b3 : Int) % 256 = (b3 : Int) := by omega
      have hcs : [Value.int .u8 (y0 : Int), .int .u8 (b1 : Int), .int .u8 (b2 : Int), .int .u8 (b3 : Int)] = bvs (word32 x) := by
        simp only [bvs, word32, List.map_cons, List.map_nil, UInt8.toNat_ofNat']
        rw [← hy0, ← hy1, ← hy2, hb1, hb2, hb3, Nat.mod_eq_of_lt (show y0 < 2 ^ 8 by omega)]
      have HCS := hid hcs
      clear hx hrv hxg hS5 hy0 hy1 hy2 hb1 hb2 hb3 hcs
      go_wp2
      refine wp_region_first_tail (.slice A5 zs.length c5) 27 (by kernel_rfl) rfl (by kernel_rfl) (fun c a w h => hpan c a _ _ w h) (Or.inl ⟨by rfl, fun _ => rfl⟩) ?_
      simp only [List.drop_succ_cons, List.drop_zero, List.take_succ_cons, List.take_zero]
      go_simp
      repeat (quiet_step (fail))
      refine wpQuiet_nil ?_
      intro ne
      obtain ⟨we, hwe⟩ : ∃ we : World, we = wq.drewN ne := ⟨_, rfl⟩
      have hBE : Below w0.heap.size w0 we := by rw [hwe]; exact below_drewN HB.out ne
      have hOE : OwnB we w0.heap.size (.slice A5 zs.length c5) zs := by rw [hwe]; exact HO.out
      rw [← hwe]
      clear g0 g1 g2 g4 g5 g6 g7
      have HO2 := hid (World.ownsRow.alloc hOE (.cells #[.int .u8 (y0 : Int), .int .u8 (b1 : Int), .int .u8 (b2 : Int), .int .u8 (b3 : Int)] 5))
      have HL2 := hid (Lie.newA we #[.int .u8 (y0 : Int), .int .u8 (b1 : Int), .int .u8 (b2 : Int), .int .u8 (b3 : Int)] 5)
      have HBE := hid hBE
      have hzb : zs.length ≤ 28 := HZ5.out
      clear hwe hBE hOE hcx hxl HO HB
      go_wp2_with (at_builtin; go_loud (refine wpList_append_lie rfl (.tmp 322) (.tmp 349) 22 rfl w0.heap.size 5 (.int .u8 0) 1 Tryz.underlying22 infoU8 rfl rfl HO2.out rfl rfl HL2.out ?l0 ?l1 ?l2 ?l3 ?_))
      case l0 => first | exact ⟨rfl, rfl, rfl, rfl⟩ | (intro u hu; simp at hu; rcases hu with rfl | rfl | rfl | rfl <;> rfl)
      case l1 => first | (unfold maxLen; simp; omega) | (simp; omega) | omega
      case l2 => first | omega | (simp; omega)
      case l3 => (have := HBE.out.size; simp; omega)
      intro v5 w5 hown5 hg5 _
      have hO5 : OwnB w5 w0.heap.size v5 (s.bytesTo (n + 1)) := by
        rw [St8.bytesTo_succ s n x HXG.out, ← HZS.out]
        have h := hown5
        rw [HCS.out, ← bvs_append] at h
        unfold OwnB
        rw [List.length_append]
        exact h
      have hB5 : Below w0.heap.size w0 w5 := (HBE.out.alloc HBE.out.size _).grown hg5 (by have := HBE.out.size; simp; omega) (fun q h => own_lt HO2.out q h)
      have HO5 := hid hO5; have HB5 := hid hB5
      clear hown5 hg5 hO5 hB5 HO2 HL2
      go_wp2
      have hn := HN.out
      go_roundg (8 - n - 1)
      case measure => omega
      case rel => exact ⟨n + 1, by omega, by go_num, HO5.out, HB5.out⟩
    · obtain rfl : n = 8 := by omega
      have hni : ¬ ((8 : Nat) : Int) < 8 := by omega
      have hbe : zs = s.bytes := by rw [HZS.out]; rfl
      subst hbe
      clear HZS HZL
      go_wp2
      exact hexit _ wq _ _ _ _ _ _ _ _ _ _ _ _ _ _ _ _ _ _ _ _ _ _ _ _ _ _ _ _ _ _ _ _ _ _ HO.out HB.out
end
end Go.Proofs.YtpkmidaflnbobaaGreatDoor
end
section
namespace Go.Proofs.YtpkmidaflnbobaaGreatDoor
open Go.RowKit
set_option linter.unusedVariables false
set_option linter.unusedSimpArgs false
theorem own_lit (w : World) (cs : Array Value) (n : Nat) (xs : List UInt8) {B : Nat} (hB : B ≤ w.heap.size) (hn : cs.size = n) (hx : xs.length = n) (h63 : n ≤ 9223372036854775807) (h : cs.toList = bvs xs) :
    OwnB (w.alloc (.cells cs 5)) B (.slice (some ⟨w.heap.size, 0, none⟩) n n) xs := by
  have h1 := World.ownsRow_lit (base := B) (e := 5) (size := 1) w cs n hB (by simpa [maxLen] using h63) (by rw [hn, Nat.mul_one])
  rw [h] at h1
  unfold OwnB
  rw [hx]
  exact h1
theorem u8_cell (m : Nat) (z : Int) (h : z = (m : Int) % 256) : Value.int .u8 z = .int .u8 ((UInt8.ofNat m).toNat : Int) := by
  rw [ofNat_val, h]
set_option maxHeartbeats 800000 in
theorem RefNum_any (s n : Nat) (w : World) (hs : s ≤ 8) (hn : n < 18446744073709551616) :
    Calls Tryz.prog 51 #[.int .i64 (s : Int), .int .u64 (n : Int)] w fun e w' => ∃ v, e = .returned v ∧ OwnB w' w.heap.size v (beBytes s n) ∧ w.grownBy w' none := by
  go_enter Tryz.func51, Tryz.ntmps51
  go_wp2
  go_loopg [1, 5, 6] s (fun g m u i wr => ∃ k : Nat, k + g = s ∧ i = .int .i64 (k : Int) ∧ m = .int .u64 ((n / 256 ^ k : Nat) : Int) ∧ OwnB wr w.heap.size u (beBytes k n) ∧ w.grownBy wr none)
  case atStart => exact ⟨0, by omega, rfl, by simp, World.ownsRow_nil _ _ _ _, World.grownBy.refl _ _⟩
  case round =>
    obtain ⟨k, hk, rfl, rfl, ho, hg⟩ := hrel
    have HK := hid hk; have HG := hid hg
    clear hk hg
    by_cases hlt : k < s
    · obtain ⟨A, c, rfl, hS⟩ := own_sl ho
      have HS := hid hS
      have HO := hid ho
      clear ho hS
      obtain ⟨m, hm⟩ : ∃ m, m = n / 256 ^ k := ⟨_, rfl⟩
      rw [← hm]
      have hmb : m < 18446744073709551616 := by rw [hm]; exact Nat.lt_of_le_of_lt (Nat.div_le_self _ _) hn
      have HM := hid hm
      clear hm
      rw [beBytes_length] at *
      have hone : ∀ W : World, OwnB (W.alloc (.cells #[.int .u8 ((m : Int) % 256)] 5)) W.heap.size (.slice (some ⟨W.heap.size, 0, none⟩) 1 1) [UInt8.ofNat m] := fun W => own_lit W _ 1 _ (Nat.le_refl _) rfl rfl (by omega) (by simp only [bvs, List.map_cons, List.map_nil]; rw [u8_cell m _ rfl])
      have HONE := hid hone
      clear hone
      go_wp2_with (at_builtin; refine wpList_append_lie rfl _ _ 22 rfl wr.heap.size 5 (.int .u8 0) 1 Tryz.underlying22 infoU8 rfl rfl (HONE.out wr) ((bvs_length _).trans (beBytes_length k n)) rfl (HS.out.lie.alloc (Nat.le_refl _) _) (bvs_one _) ?d1 ?d2 ?d3 ?_)
      case d1 => simp [maxLen]; omega
      case d2 => simp; omega
      case d3 => simp
      intro v2 w2 hown2 hg2 hat2
      have hz := HG.out.size
      have hB : beBytes (k + 1) n = UInt8.ofNat m :: beBytes k n := by rw [beBytes, HM.out]
      have hO2 : OwnB w2 w.heap.size v2 (beBytes (k + 1) n) := by
        refine own_base (B' := wr.heap.size) ?_ hz
        rw [hB]
        simpa [OwnB, bvs, Nat.add_comm] using hown2
      have hG2 : w.grownBy w2 none := grown_fresh (grown_alloc HG.out _) hg2 (fun q h => by simp [Value.ownBlock] at h; omega)
      have HO2 := hid hO2; have HG2 := hid hG2
      have hdiv : m / 256 = n / 256 ^ (k + 1) := by rw [HM.out, Nat.div_div_eq_div_mul, Nat.pow_succ]
      have HDIV := hid hdiv
      clear hown2 hg2 hat2 hO2 hG2 hB hdiv HONE HO HS
      go_wp2
      have hk := HK.out
      go_roundg (s - k - 1)
      case measure => omega
      case rel => exact ⟨k + 1, by omega, by go_num, by rw [← HDIV.out]; go_num, HO2.out, HG2.out⟩
    · have hk := HK.out
      obtain rfl : k = s := by omega
      go_wp2
      go_ret
      exact ⟨u5, rfl, ho, HG.out⟩
end Go.Proofs.YtpkmidaflnbobaaGreatDoor
end
section
namespace Go.Proofs.YtpkmidaflnbobaaGreatDoor
open Go.RowKit
set_option linter.unusedVariables false
set_option linter.unusedSimpArgs false
/-- The first 32 bytes, 0 behind them. -/
def pad32 (xs : List UInt8) : List UInt8 := (xs ++ List.replicate 32 0).take 32
theorem pad32_length (xs : List UInt8) : (pad32 xs).length = 32 := by unfold pad32; rw [List.length_take, List.length_append, List.length_replicate]; omega
def clampB (xs : List UInt8) : List UInt8 := ((pad32 xs).set 0 (UInt8.ofNat (((pad32 xs).getD 0 0).toNat / 8 * 8))).set 31 (UInt8.ofNat (((pad32 xs).getD 31 0).toNat % 64 + 64))
theorem clampB_length (xs : List UInt8) : (clampB xs).length = 32 := by unfold clampB; rw [List.length_set, List.length_set, pad32_length]
end Go.Proofs.YtpkmidaflnbobaaGreatDoor
end
