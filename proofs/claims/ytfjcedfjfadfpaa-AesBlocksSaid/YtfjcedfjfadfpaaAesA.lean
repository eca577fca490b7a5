/-
  Package aes: eight bytes at once.
-/
import Derived.Test.YtfjcedfjfadfpaaLan
import Derived.Test.YtfjcedfjfadfpaaBase
import Derived.Test.YtfjcedfjfadfpaaLoops
import Derived.Laws.BitsAllLaws
import Derived.Deep.LoopGhost
namespace Go.Proofs.Ytfjcedfjfadfpaa
open Go.RowKit
set_option linter.unusedVariables false
set_option linter.unusedSimpArgs false

theorem ret_i {k : IntKind} {a b : Int} (h : a = b) : Ending.returned (.int k a) = .returned (.int k b) := by rw [h]
theorem wrapN (a : Nat) : IntKind.u64.wrap ((a : Nat) : Int) = ((a % 18446744073709551616 : Nat) : Int) := by rw [IntKind.wrap_u64]; omega
theorem wrapM (a c : Nat) : IntKind.u64.wrap ((a : Int) * (c : Int)) = ((a * c % 18446744073709551616 : Nat) : Int) := by rw [← wrapN]; norm_cast
theorem dblW_lt (x : Nat) : dblW x < 18446744073709551616 := Nat.xor_lt_two_pow (n := 64) (Nat.mod_lt _ (by decide)) (Nat.mod_lt _ (by decide))
theorem dbl_bits (x : Nat) (hx : x < 18446744073709551616) :
    bits .xor .u64 (IntKind.u64.wrap (bits .andNot .u64 (x : Int) 9259542123273814144 * 2)) (IntKind.u64.wrap (bits .and .u64 ((x : Int) / 128) 72340172838076673 * 27)) = ((dblW x : Nat) : Int) := by
  have e1 := u64_andNot_nat x 9259542123273814144 hx (by decide)
  have e2 := u64_and_nat (x / 128) 72340172838076673 (Nat.lt_of_le_of_lt (Nat.div_le_self _ _) hx) (by decide)
  have e0 : (x : Int) / 128 = ((x / 128 : Nat) : Int) := by omega
  rw [e0]
  have e1' : bits .andNot .u64 (x : Int) 9259542123273814144 = ((x &&& (18446744073709551615 - 9259542123273814144) : Nat) : Int) := e1
  have e2' : bits .and .u64 ((x / 128 : Nat) : Int) 72340172838076673 = ((x / 128 &&& 72340172838076673 : Nat) : Int) := e2
  rw [e1', e2', show (2 : Int) = ((2 : Nat) : Int) from rfl, show (27 : Int) = ((27 : Nat) : Int) from rfl, wrapM, wrapM, u64_xor_nat _ _ (Nat.mod_lt _ (by decide)) (Nat.mod_lt _ (by decide))]
  rfl
theorem doubled_any (x : Nat) (w : World) (hx : x < 18446744073709551616) :
    Calls Try.prog 23 #[.int .u64 (x : Int)] w fun e w' => e = .returned (.int .u64 ((dblW x : Nat) : Int)) ∧ w = w' := by
  have HB := hid (dbl_bits x hx)
  go_enter Try.func23, Try.ntmps23
  go_wp2
  go_ret
  exact ⟨ret_i HB.out, rfl⟩
theorem lowW_bits (x n : Nat) (hx : x < 18446744073709551616) :
    bits .or .u64 (bits .and .u64 ((x : Int) / 2 ^ n) (IntKind.u64.wrap (72340172838076673 * (255 / 2 ^ n)))) (bits .andNot .u64 (IntKind.u64.wrap ((x : Int) * 2 ^ (8 - n))) (IntKind.u64.wrap (72340172838076673 * (255 / 2 ^ n)))) = ((lowW x n : Nat) : Int) := by
  have e0 : (x : Int) / 2 ^ n = ((x / 2 ^ n : Nat) : Int) := by rw [Int.natCast_ediv, Int.natCast_pow]; rfl
  have e3 : (255 : Int) / 2 ^ n = ((255 / 2 ^ n : Nat) : Int) := by rw [Int.natCast_ediv, Int.natCast_pow]; rfl
  have e4 : (x : Int) * 2 ^ (8 - n) = ((x * 2 ^ (8 - n) : Nat) : Int) := by norm_cast
  have h255 : 255 / 2 ^ n ≤ 255 := Nat.div_le_self _ _
  have hm : 72340172838076673 * (255 / 2 ^ n) < 18446744073709551616 := by omega
  have e5 : IntKind.u64.wrap (72340172838076673 * ((255 / 2 ^ n : Nat) : Int)) = ((72340172838076673 * (255 / 2 ^ n) : Nat) : Int) := by
    rw [show (72340172838076673 : Int) = ((72340172838076673 : Nat) : Int) from rfl, wrapM, Nat.mod_eq_of_lt hm]
  have h1 := Nat.lt_of_le_of_lt (Nat.div_le_self x (2 ^ n)) hx
  rw [e0, e3, e4, e5, wrapN, u64_and_nat _ _ h1 hm, u64_andNot_nat _ _ (Nat.mod_lt _ (by decide)) hm,
    u64_or_nat _ _ (Nat.lt_of_le_of_lt Nat.and_le_left h1) (Nat.lt_of_le_of_lt Nat.and_le_left (Nat.mod_lt _ (by decide)))]
  rfl
theorem lowered_any (x n : Nat) (z : Int) (w : World) (hz : z = (n : Int)) (hx : x < 18446744073709551616) (h1 : 1 ≤ n) (h7 : n ≤ 7) :
    Calls Try.prog 25 #[.int .u64 (x : Int), .int .i64 z] w fun e w' => e = .returned (.int .u64 ((lowW x n : Nat) : Int)) ∧ ∃ k, w' = w.drewN k := by
  subst hz
  have hn0 : ¬ (n : Int) < 0 := by omega
  have HB := hid (lowW_bits x n hx)
  go_enter Try.func25, Try.ntmps25
  go_wp2
  go_quiet (fail)
  go_wp2
  go_ret
  exact ⟨ret_i HB.out, nq, rfl⟩
def dbW (a : Nat) : Nat → Nat
  | 0 => a
  | k + 1 => dblW (dbW a k)
theorem dbW_lt {a : Nat} (ha : a < 18446744073709551616) : ∀ k, dbW a k < 18446744073709551616
  | 0 => ha
  | k + 1 => dblW_lt _
def tmW (a b : Nat) : Nat → Nat
  | 0 => 0
  | k + 1 => tmW a b k ^^^ (dbW a k &&& ((b / 2 ^ k &&& 72340172838076673) * 255 % 18446744073709551616))
theorem tmW_lt {a : Nat} (ha : a < 18446744073709551616) (b : Nat) : ∀ k, tmW a b k < 18446744073709551616
  | 0 => by show 0 < _; decide
  | k + 1 => Nat.xor_lt_two_pow (n := 64) (tmW_lt ha b k) (Nat.lt_of_le_of_lt Nat.and_le_left (dbW_lt ha k))
theorem tm_bits64 (p a y : Nat) (hp : p < 18446744073709551616) (ha : a < 18446744073709551616) (hy : y < 18446744073709551616) :
    bits .xor .u64 (p : Int) (bits .and .u64 (a : Int) (IntKind.u64.wrap (bits .and .u64 (y : Int) 72340172838076673 * 255))) = ((p ^^^ (a &&& ((y &&& 72340172838076673) * 255 % 18446744073709551616)) : Nat) : Int) := by
  have e2 := u64_and_nat y 72340172838076673 hy (by decide)
  have e2' : bits .and .u64 (y : Int) 72340172838076673 = ((y &&& 72340172838076673 : Nat) : Int) := e2
  rw [e2', show (255 : Int) = ((255 : Nat) : Int) from rfl, wrapM, u64_and_nat _ _ ha (Nat.mod_lt _ (by decide)), u64_xor_nat _ _ hp (Nat.lt_of_le_of_lt Nat.and_le_left ha)]
set_option maxHeartbeats 1000000 in
theorem times_any (a b : Nat) (w : World) (ha : a < 18446744073709551616) (hb : b < 18446744073709551616) :
    Calls Try.prog 17 #[.int .u64 (a : Int), .int .u64 (b : Int)] w fun e w' => e = .returned (.int .u64 ((tmW a b 8 : Nat) : Int)) ∧ w = w' := by
  have HA := hid ha; have HB := hid hb
  clear ha hb
  go_enter Try.func17, Try.ntmps17
  go_wp2
  go_loopg [0, 1, 5, 6] 8 (fun g x y p i wr => ∃ k : Nat, k + g = 8 ∧ i = .int .i64 (k : Int) ∧ x = .int .u64 ((dbW a k : Nat) : Int) ∧ y = .int .u64 ((b / 2 ^ k : Nat) : Int) ∧ p = .int .u64 ((tmW a b k : Nat) : Int) ∧ w = wr)
  case atStart => exact ⟨0, rfl, rfl, rfl, by simp, rfl, rfl⟩
  case round =>
    obtain ⟨k, hk, rfl, rfl, rfl, rfl, rfl⟩ := hrel
    have HK := hid hk
    have hk8 : k ≤ 8 := by omega
    obtain ⟨x, hx⟩ : ∃ n, n = dbW a k := ⟨_, rfl⟩
    obtain ⟨y, hy⟩ : ∃ n, n = b / 2 ^ k := ⟨_, rfl⟩
    obtain ⟨p, hp⟩ : ∃ n, n = tmW a b k := ⟨_, rfl⟩
    rw [← hx, ← hy, ← hp]
    have hxl : x < 18446744073709551616 := by rw [hx]; exact dbW_lt HA.out k
    have hyl : y < 18446744073709551616 := by rw [hy]; exact Nat.lt_of_le_of_lt (Nat.div_le_self _ _) HB.out
    have hpl : p < 18446744073709551616 := by rw [hp]; exact tmW_lt HA.out b k
    have HX := hid hx; have HY := hid hy; have HP := hid hp
    clear hk hx hy hp
    by_cases hlt : k < 8
    · have hki : (k : Int) < 8 := by omega
      have hbt := tm_bits64 p x y hpl hxl hyl
      have KD := hid (doubled_any x w hxl)
      have hwi : IntKind.i64.wrap ((k : Int) + 1) = ((k + 1 : Nat) : Int) := (IntWalk.i64_in _ (by omega)).trans (by omega)
      obtain ⟨z, hz⟩ : ∃ z, z = y / 2 := ⟨_, rfl⟩
      have hy2 : (y : Int) / 2 = (z : Int) := by omega
      have HZ := hid hz
      clear hz
      have HBT := hid hbt
      clear hbt hxl hyl hpl
      go_wp2_with fail
      refine KD.out.mono ?_
      rintro e w' ⟨rfl, rfl⟩
      go_wp2
      have hk := HK.out
      go_roundg (8 - k - 1)
      case measure => omega
      case rel => exact ⟨k + 1, by omega, rfl, by rw [dbW, ← HX.out], by rw [Nat.pow_succ, ← Nat.div_div_eq_div_mul, ← HY.out, ← HZ.out], by rw [HBT.out, tmW, ← HX.out, ← HY.out, ← HP.out], rfl⟩
    · have hki : ¬ (k : Int) < 8 := by omega
      have hk8e : k = 8 := by omega
      rw [hk8e] at HP
      clear hxl hyl hpl
      go_wp2
      go_ret
      exact ⟨ret_i (by rw [HP.out]), rfl⟩

theorem dbW_ln {f : Nat → Nat} (hf : ∀ i, f i < 256) : ∀ k, dbW (ln f 8) k = ln (fun i => dbk (f i) k) 8
  | 0 => rfl
  | k + 1 => by rw [dbW, dbW_ln hf k, dblW_ln (fun i => dbk_lt (hf i) k)]; rfl
theorem ln_zero : ∀ n, ln (fun _ => 0) n = 0
  | 0 => rfl
  | n + 1 => by show 0 + 256 * ln (fun _ => 0) n = 0; rw [ln_zero n]
theorem tmW_mb {f g : Nat → Nat} (hf : ∀ i, f i < 256) (hg : ∀ i, g i < 256) : ∀ k, k ≤ 8 → tmW (ln f 8) (ln g 8) k = ln (fun i => mb (f i) (g i) k) 8
  | 0, _ => (ln_zero 8).symm
  | k + 1, h => by rw [tmW, tmW_mb hf hg k (by omega), dbW_ln hf k, mulW_step hf hg k (by omega)]
theorem tmW_ln {f g : Nat → Nat} (hf : ∀ i, f i < 256) (hg : ∀ i, g i < 256) : tmW (ln f 8) (ln g 8) 8 = ln (fun i => tmN (f i) (g i)) 8 := by
  rw [tmW_mb hf hg 8 (by omega)]
  exact ln_congr 8 fun i _ => mb8 (hf i) (hg i)
/-- The powers of words. -/
def sqW (a : Nat) : Nat → Nat
  | 0 => a
  | k + 1 => tmW (sqW a k) (sqW a k) 8
def ivW (a : Nat) : Nat → Nat
  | 0 => 72340172838076673
  | k + 1 => tmW (ivW a k) (sqW a (k + 1)) 8
theorem sqW_lt {a : Nat} (ha : a < 18446744073709551616) : ∀ k, sqW a k < 18446744073709551616
  | 0 => ha
  | k + 1 => tmW_lt (sqW_lt ha k) _ 8
theorem ivW_lt {a : Nat} (ha : a < 18446744073709551616) : ∀ k, ivW a k < 18446744073709551616
  | 0 => by show 72340172838076673 < _; decide
  | k + 1 => tmW_lt (ivW_lt ha k) _ 8
theorem sqW_ln {f : Nat → Nat} (hf : ∀ i, f i < 256) : ∀ k, sqW (ln f 8) k = ln (fun i => sqk (f i) k) 8
  | 0 => rfl
  | k + 1 => by rw [sqW, sqW_ln hf k, tmW_ln (fun i => sqk_lt (hf i) k) (fun i => sqk_lt (hf i) k)]; rfl
theorem ivW_ln {f : Nat → Nat} (hf : ∀ i, f i < 256) : ∀ k, ivW (ln f 8) k = ln (fun i => ivk (f i) k) 8
  | 0 => by show 72340172838076673 = ln (fun _ => 1) 8; decide
  | k + 1 => by rw [ivW, ivW_ln hf k, sqW_ln hf (k + 1), tmW_ln (fun i => ivk_lt (hf i) k) (fun i => sqk_lt (hf i) (k + 1))]; rfl
set_option maxHeartbeats 1000000 in
theorem inverse_any (a : Nat) (w : World) (ha : a < 18446744073709551616) :
    Calls Try.prog 24 #[.int .u64 (a : Int)] w fun e w' => e = .returned (.int .u64 ((ivW a 7 : Nat) : Int)) ∧ w = w' := by
  have HA := hid ha
  clear ha
  go_enter Try.func24, Try.ntmps24
  go_wp2
  go_loopg [0, 3, 4] 7 (fun g x p i wr => ∃ k : Nat, k + g = 7 ∧ i = .int .i64 (k : Int) ∧ x = .int .u64 ((sqW a k : Nat) : Int) ∧ p = .int .u64 ((ivW a k : Nat) : Int) ∧ w = wr)
  case atStart => exact ⟨0, rfl, rfl, rfl, rfl, rfl⟩
  case round =>
    obtain ⟨k, hk, rfl, rfl, rfl, rfl⟩ := hrel
    have HK := hid hk
    have hk8 : k ≤ 7 := by omega
    obtain ⟨x, hx⟩ : ∃ n, n = sqW a k := ⟨_, rfl⟩
    obtain ⟨p, hp⟩ : ∃ n, n = ivW a k := ⟨_, rfl⟩
    rw [← hx, ← hp]
    have HX := hid hx; have HP := hid hp
    clear hk hx hp
    by_cases hlt : k < 7
    · have hki : (k : Int) < 7 := by omega
      have hxl : x < 18446744073709551616 := by rw [HX.out]; exact sqW_lt HA.out k
      have hpl : p < 18446744073709551616 := by rw [HP.out]; exact ivW_lt HA.out k
      obtain ⟨y, hy⟩ : ∃ n, n = tmW x x 8 := ⟨_, rfl⟩
      have K1 := hid (times_any x x w hxl hxl)
      rw [← hy] at K1
      have K2 := hid (times_any p y w hpl (by rw [hy]; exact tmW_lt hxl x 8))
      have HY := hid hy
      have hwi : IntKind.i64.wrap ((k : Int) + 1) = ((k + 1 : Nat) : Int) := (IntWalk.i64_in _ (by omega)).trans (by omega)
      clear hxl hpl hy
      go_wp2_with fail
      refine K1.out.mono ?_
      rintro e w' ⟨rfl, rfl⟩
      go_wp2_with fail
      refine K2.out.mono ?_
      rintro e w' ⟨rfl, rfl⟩
      go_wp2
      have hk := HK.out
      go_roundg (7 - k - 1)
      case measure => omega
      case rel => exact ⟨k + 1, by omega, rfl, by rw [HY.out, HX.out]; rfl, by rw [HP.out, HY.out, HX.out]; rfl, rfl⟩
    · have hki : ¬ (k : Int) < 7 := by omega
      have hk8e : k = 7 := by omega
      rw [hk8e] at HP
      go_wp2
      go_ret
      exact ⟨ret_i (by rw [HP.out]), rfl⟩
/-- What the box makes of eight bytes. -/
def boxW (x : Nat) : Nat := ivW x 7 ^^^ lowW (ivW x 7) 4 ^^^ lowW (ivW x 7) 5 ^^^ lowW (ivW x 7) 6 ^^^ lowW (ivW x 7) 7 ^^^ 7161677110969590627
theorem lowW_lt {x : Nat} (hx : x < 18446744073709551616) (n : Nat) : lowW x n < 18446744073709551616 :=
  Nat.or_lt_two_pow (n := 64) (Nat.lt_of_le_of_lt Nat.and_le_left (Nat.lt_of_le_of_lt (Nat.div_le_self _ _) hx)) (Nat.lt_of_le_of_lt Nat.and_le_left (Nat.mod_lt _ (by decide)))
theorem lowB_lt {b : Nat} (hb : b < 256) (n : Nat) : lowB b n < 256 :=
  or_b (and_b (Nat.lt_of_le_of_lt (Nat.div_le_self _ _) hb)) (and_b (Nat.mod_lt _ (by decide)))
theorem boxW_lt {x : Nat} (hx : x < 18446744073709551616) : boxW x < 18446744073709551616 := by
  have h := ivW_lt hx 7
  exact Nat.xor_lt_two_pow (n := 64) (Nat.xor_lt_two_pow (n := 64) (Nat.xor_lt_two_pow (n := 64) (Nat.xor_lt_two_pow (n := 64) (Nat.xor_lt_two_pow (n := 64) h (lowW_lt h 4)) (lowW_lt h 5)) (lowW_lt h 6)) (lowW_lt h 7)) (by decide)
theorem boxW_ln {f : Nat → Nat} (hf : ∀ i, f i < 256) : boxW (ln f 8) = ln (fun i => boxC (f i)) 8 := by
  have h : ∀ i, ivk (f i) 7 < 256 := fun i => ivk_lt (hf i) 7
  have l : ∀ n i, lowB (ivk (f i) 7) n < 256 := fun n i => lowB_lt (h i) n
  unfold boxW
  rw [ivW_ln hf 7, lowW_ln h 4 (by omega) (by omega), lowW_ln h 5 (by omega) (by omega), lowW_ln h 6 (by omega) (by omega), lowW_ln h 7 (by omega) (by omega),
    show 7161677110969590627 = ln (fun _ => 99) 8 by decide,
    ln_xor 8 h (l 4), ln_xor 8 (fun i => xor_b (h i) (l 4 i)) (l 5), ln_xor 8 (fun i => xor_b (xor_b (h i) (l 4 i)) (l 5 i)) (l 6),
    ln_xor 8 (fun i => xor_b (xor_b (xor_b (h i) (l 4 i)) (l 5 i)) (l 6 i)) (l 7), ln_xor 8 (fun i => xor_b (xor_b (xor_b (xor_b (h i) (l 4 i)) (l 5 i)) (l 6 i)) (l 7 i)) (fun _ => by omega)]
  rfl
theorem drewN_two (w : World) (a b : Nat) : (w.drewN a).drewN b = w.drewN (a + b) := by
  unfold World.drewN
  simp [Nat.add_assoc]
set_option maxHeartbeats 1000000 in
theorem boxed_any (x : Nat) (w : World) (hx : x < 18446744073709551616) :
    Calls Try.prog 18 #[.int .u64 (x : Int)] w fun e w' => e = .returned (.int .u64 ((boxW x : Nat) : Int)) ∧ ∃ k, w' = w.drewN k := by
  have KI := hid (inverse_any x w hx)
  obtain ⟨y, hy⟩ : ∃ n, n = ivW x 7 := ⟨_, rfl⟩
  rw [← hy] at KI
  have hyl : y < 18446744073709551616 := by rw [hy]; exact ivW_lt hx 7
  have K4 : Hid (∀ W, _) := hid fun W => lowered_any y 4 4 W rfl hyl (by omega) (by omega)
  have K5 : Hid (∀ W, _) := hid fun W => lowered_any y 5 5 W rfl hyl (by omega) (by omega)
  have K6 : Hid (∀ W, _) := hid fun W => lowered_any y 6 6 W rfl hyl (by omega) (by omega)
  have K7 : Hid (∀ W, _) := hid fun W => lowered_any y 7 7 W rfl hyl (by omega) (by omega)
  obtain ⟨y4, h4⟩ : ∃ n, n = lowW y 4 := ⟨_, rfl⟩
  obtain ⟨y5, h5⟩ : ∃ n, n = lowW y 5 := ⟨_, rfl⟩
  obtain ⟨y6, h6⟩ : ∃ n, n = lowW y 6 := ⟨_, rfl⟩
  obtain ⟨y7, h7⟩ : ∃ n, n = lowW y 7 := ⟨_, rfl⟩
  rw [← h4] at K4; rw [← h5] at K5; rw [← h6] at K6; rw [← h7] at K7
  have HB : Hid (bits .xor .u64 (bits .xor .u64 (bits .xor .u64 (bits .xor .u64 (bits .xor .u64 (y : Int) (y4 : Int)) (y5 : Int)) (y6 : Int)) (y7 : Int)) 7161677110969590627 = ((boxW x : Nat) : Int)) := hid (by
    have l4 : y4 < 18446744073709551616 := by rw [h4]; exact lowW_lt hyl 4
    have l5 : y5 < 18446744073709551616 := by rw [h5]; exact lowW_lt hyl 5
    have l6 : y6 < 18446744073709551616 := by rw [h6]; exact lowW_lt hyl 6
    have l7 : y7 < 18446744073709551616 := by rw [h7]; exact lowW_lt hyl 7
    have x1 := Nat.xor_lt_two_pow (n := 64) hyl l4
    have x2 := Nat.xor_lt_two_pow (n := 64) x1 l5
    have x3 := Nat.xor_lt_two_pow (n := 64) x2 l6
    have x4 := Nat.xor_lt_two_pow (n := 64) x3 l7
    rw [u64_xor_nat _ _ hyl l4, u64_xor_nat _ _ x1 l5, u64_xor_nat _ _ x2 l6, u64_xor_nat _ _ x3 l7]
    refine (u64_xor_nat _ 7161677110969590627 x4 (by decide)).trans ?_
    rw [h4, h5, h6, h7, hy]; rfl)
  clear hx hy hyl h4 h5 h6 h7
  go_enter Try.func18, Try.ntmps18
  go_wp2_with fail
  refine KI.out.mono ?_
  rintro e w' ⟨rfl, rfl⟩
  go_wp2_with fail
  refine (K4.out _).mono ?_
  rintro e w' ⟨rfl, k4, rfl⟩
  go_wp2_with fail
  refine (K5.out _).mono ?_
  rintro e w' ⟨rfl, k5, rfl⟩
  go_wp2_with fail
  refine (K6.out _).mono ?_
  rintro e w' ⟨rfl, k6, rfl⟩
  go_wp2_with fail
  refine (K7.out _).mono ?_
  rintro e w' ⟨rfl, k7, rfl⟩
  go_wp2
  go_ret
  exact ⟨ret_i HB.out, k4 + k5 + k6 + k7, by simp only [World.drewN_drewN]⟩

/-- One byte. -/
def one8 (a : Nat) (i : Nat) : Nat := if i = 0 then a else 0
theorem one8_lt {a : Nat} (ha : a < 256) (i : Nat) : one8 a i < 256 := by unfold one8; split <;> omega
theorem one8_zero (a : Nat) : one8 a 0 = a := by simp [one8]
theorem ln_one8 (a : Nat) : a = ln (one8 a) 8 := by
  show a = one8 a 0 + 256 * ln (fun i => one8 a (i + 1)) 7
  have h : ln (fun i => one8 a (i + 1)) 7 = 0 := (ln_congr 7 fun i _ => by simp [one8]).trans (ln_zero 7)
  rw [h]
  simp [one8]
theorem ln_low {f : Nat → Nat} (n : Nat) (h : f 0 < 256) : ln f (n + 1) % 256 = f 0 := by
  show (f 0 + 256 * ln (fun i => f (i + 1)) n) % 256 = f 0
  omega
theorem tmW_byte {a b : Nat} (ha : a < 256) (hb : b < 256) : tmW a b 8 % 256 = tmN a b := by
  have h := tmW_ln (one8_lt ha) (one8_lt hb)
  rw [← ln_one8, ← ln_one8] at h
  rw [h]
  refine (ln_low (f := fun i => tmN (one8 a i) (one8 b i)) 7 (tm_lt (one8_lt ha 0) (one8_lt hb 0))).trans ?_
  show tmN (one8 a 0) (one8 b 0) = _
  rw [one8_zero, one8_zero]
theorem boxW_byte {a : Nat} (ha : a < 256) : boxW a % 256 = boxC a := by
  have h := boxW_ln (one8_lt ha)
  rw [← ln_one8] at h
  rw [h]
  refine (ln_low (f := fun i => boxC (one8 a i)) 7 (boxC_lt _ (one8_lt ha 0))).trans ?_
  show boxC (one8 a 0) = _
  rw [one8_zero]
theorem Times_any (a b : Nat) (w : World) (ha : a < 256) (hb : b < 256) :
    Calls Try.prog 7 #[.int .u8 (a : Int), .int .u8 (b : Int)] w fun e w' => e = .returned (.int .u8 ((tmN a b : Nat) : Int)) ∧ w = w' := by
  have KT := hid (times_any a b w (by omega) (by omega))
  obtain ⟨y, hy⟩ : ∃ n, n = tmW a b 8 := ⟨_, rfl⟩
  obtain ⟨z, hz⟩ : ∃ n, n = tmN a b := ⟨_, rfl⟩
  rw [← hy] at KT
  have hm : (y : Int) % 256 = (z : Int) := by have := tmW_byte ha hb; rw [← hy, ← hz] at this; omega
  have hw : IntKind.u8.wrap (y : Int) = (z : Int) := by rw [IntKind.wrap_u8]; exact hm
  rw [← hz]
  clear hy hz
  go_enter Try.func7, Try.ntmps7
  go_wp2_with fail
  refine KT.out.mono ?_
  rintro e w' ⟨rfl, rfl⟩
  go_wp2
  go_ret
  exact ⟨ret_i (by first | rfl | exact hm | exact hw), rfl⟩
theorem Box_any (a : Nat) (w : World) (ha : a < 256) :
    Calls Try.prog 9 #[.int .u8 (a : Int)] w fun e w' => e = .returned (.int .u8 ((boxC a : Nat) : Int)) ∧ ∃ k, w' = w.drewN k := by
  have KT := hid (boxed_any a w (by omega))
  obtain ⟨y, hy⟩ : ∃ n, n = boxW a := ⟨_, rfl⟩
  obtain ⟨z, hz⟩ : ∃ n, n = boxC a := ⟨_, rfl⟩
  rw [← hy] at KT
  have hm : (y : Int) % 256 = (z : Int) := by have := boxW_byte ha; rw [← hy, ← hz] at this; omega
  have hw : IntKind.u8.wrap (y : Int) = (z : Int) := by rw [IntKind.wrap_u8]; exact hm
  rw [← hz]
  clear hy hz
  go_enter Try.func9, Try.ntmps9
  go_wp2_with fail
  refine KT.out.mono ?_
  rintro e w' ⟨rfl, k, rfl⟩
  go_wp2
  go_ret
  exact ⟨ret_i (by first | rfl | exact hm | exact hw), k, rfl⟩
end Go.Proofs.Ytfjcedfjfadfpaa
