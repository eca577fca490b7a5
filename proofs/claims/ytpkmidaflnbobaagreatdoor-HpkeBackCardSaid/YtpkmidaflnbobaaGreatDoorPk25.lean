/-
  Texts of this claim in one file: AesA, AesL, AesB, AesE, AesD, AesF, AesC.
-/
import Derived.Test.YtpkmidaflnbobaaGreatDoorPk24
import Derived.Test.YtpkmidaflnbobaaGreatDoorPk37
import Derived.Test.YtpkmidaflnbobaaGreatDoorPk2
import Derived.Laws.BitsAllLaws
import Derived.Deep.LoopGhost
import Derived.Test.YtpkmidaflnbobaaGreatDoorPk39
import Derived.Test.YtpkmidaflnbobaaGreatDoorPk42
import Derived.Deep.WholeRow
import Derived.StillTailTactics
import Derived.Deep.OwnRows
import Derived.Test.YtpkmidaflnbobaaGreatDoorPk43
section
namespace Go.Proofs.YtpkmidaflnbobaaGreatDoor
open Go.RowKit
set_option linter.unusedVariables false
set_option linter.unusedSimpArgs false
theorem ret_i {k : IntKind} {a b : Int} (h : a = b) : Ending.returned (.int k a) = .returned (.int k b) := by rw [h]
theorem wrapN (a : Nat) : IntKind.u64.wrap ((a : Nat) : Int) = ((a % 18446744073709551616 : Nat) : Int) := by rw [IntKind.wrap_u64]; omega
theorem wrapM (a c : Nat) : IntKind.u64.wrap ((a : Int) * (c : Int)) = ((a * c % 18446744073709551616 : Nat) : Int) := by rw [← wrapN]; norm_cast
theorem dblW_lt (x : Nat) : dblW x < 18446744073709551616 := Nat.xor_lt_two_pow (n := 64) (Nat.mod_lt _ (by decide)) (Nat.mod_lt _ (by decide))
theorem dbl_bits (x : Nat) (hx : x < 18446744073709551616) :
    bits .xor .u64 (IntKind.u64.wrap (bits .andNot .u64 (x : Int) 9259542123273814144 * 2)) (IntKind.u64.wrap (bits .and .u64 ((x : Int) / 128) 72340172838076673 * 27)) = ((dblW x : Nat) : Int) := by
  have e1 := u64_andNot_nat x 9259542123273814144 hx (by decide)
  have e2 := u64_and_nat (x / 128) 72340172838076673 (Nat.lt_of_le_of_lt (Nat.div_le_self _ _) hx) (by decide)
  have e0 : (x : Int) / 128 = ((x / 128 : Nat) : Int) := by omega
  rw [e0]
  have e1' : bits .andNot .u64 (x : Int) 9259542123273814144 = ((x &&& (18446744073709551615 - 9259542123273814144) : Nat) : Int) := e1
  have e2' : bits .and .u64 ((x / 128 : Nat) : Int) 72340172838076673 = ((x / 128 &&& 72340172838076673 : Nat) : Int) := e2
  rw [e1', e2', show (2 : Int) = ((2 : Nat) : Int) from rfl, show (27 : Int) = ((27 : Nat) : Int) from rfl, wrapM, wrapM, u64_xor_nat _ _ (Nat.mod_lt _ (by decide)) (Nat.mod_lt _ (by decide))]
  rfl
theorem doubled_any (x : Nat) (w : World) (hx : x < 18446744073709551616) :
    Calls Tryz.prog 112 #[.int .u64 (x : Int)] w fun e w' => e = .returned (.int .u64 ((dblW x : Nat) : Int)) ∧ w = w' := by
  have HB := hid (dbl_bits x hx)
  go_enter Tryz.func112, Tryz.ntmps112
  go_wp2
  go_ret
  exact ⟨ret_i HB.out, rfl⟩
theorem lowW_bits (x n : Nat) (hx : x < 18446744073709551616) :
    bits .or .u64 (bits .and .u64 ((x : Int) / 2 ^ n) (IntKind.u64.wrap (72340172838076673 * (255 / 2 ^ n)))) (bits .andNot .u64 (IntKind.u64.wrap ((x : Int) * 2 ^ (8 - n))) (IntKind.u64.wrap (72340172838076673 * (255 / 2 ^ n)))) = ((lowW x n : Nat) : Int) := by
  have e0 : (x : Int) / 2 ^ n = ((x / 2 ^ n : Nat) : Int) := by rw [Int.natCast_ediv, Int.natCast_pow]; rfl
  have e3 : (255 : Int) / 2 ^ n = ((255 / 2 ^ n : Nat) : Int) := by rw [Int.natCast_ediv, Int.natCast_pow]; rfl
  have e4 : (x : Int) * 2 ^ (8 - n) = ((x * 2 ^ (8 - n) : Nat) : Int) := by norm_cast
  have h255 : 255 / 2 ^ n ≤ 255 := Nat.div_le_self _ _
  have hm : 72340172838076673 * (255 / 2 ^ n) < 18446744073709551616 := by omega
  have e5 : IntKind.u64.wrap (72340172838076673 * ((255 / 2 ^ n : Nat) : Int)) = ((72340172838076673 * (255 / 2 ^ n) : Nat) : Int) := by
    rw [show (72340172838076673 : Int) = ((72340172838076673 : Nat) : Int) from rfl, wrapM, Nat.mod_eq_of_lt hm]
  have h1 := Nat.lt_of_le_of_lt (Nat.div_le_self x (2 ^ n)) hx
  rw [e0, e3, e4, e5, wrapN, u64_and_nat _ _ h1 hm, u64_andNot_nat _ _ (Nat.mod_lt _ (by decide)) hm,
    u64_or_nat _ _ (Nat.lt_of_le_of_lt Nat.and_le_left h1) (Nat.lt_of_le_of_lt Nat.and_le_left (Nat.mod_lt _ (by decide)))]
  rfl
theorem lowered_any (x n : Nat) (z : Int) (w : World) (hz : z = (n : Int)) (hx : x < 18446744073709551616) (h1 : 1 ≤ n) (h7 : n ≤ 7) :
    Calls Tryz.prog 133 #[.int .u64 (x : Int), .int .i64 z] w fun e w' => e = .returned (.int .u64 ((lowW x n : Nat) : Int)) ∧ ∃ k, w' = w.drewN k := by
  subst hz
  have hn0 : ¬ (n : Int) < 0 := by omega
  have HB := hid (lowW_bits x n hx)
  go_enter Tryz.func133, Tryz.ntmps133
  go_wp2
  go_quiet (fail)
  go_wp2
  go_ret
  exact ⟨ret_i HB.out, nq, rfl⟩
def dbW (a : Nat) : Nat → Nat
  | 0 => a
  | k + 1 => dblW (dbW a k)
theorem dbW_lt {a : Nat} (ha : a < 18446744073709551616) : ∀ k, dbW a k < 18446744073709551616
  | 0 => ha
  | k + 1 => dblW_lt _
def tmW (a b : Nat) : Nat → Nat
  | 0 => 0
  | k + 1 => tmW a b k ^^^ (dbW a k &&& ((b / 2 ^ k &&& 72340172838076673) * 255 % 18446744073709551616))
theorem tmW_lt {a : Nat} (ha : a < 18446744073709551616) (b : Nat) : ∀ k, tmW a b k < 18446744073709551616
  | 0 => by show 0 < _; decide
  | k + 1 => Nat.xor_lt_two_pow (n := 64) (tmW_lt ha b k) (Nat.lt_of_le_of_lt Nat.and_le_left (dbW_lt ha k))
theorem tm_bits64 (p a y : Nat) (hp : p < 18446744073709551616) (ha : a < 18446744073709551616) (hy : y < 18446744073709551616) :
    bits .xor .u64 (p : Int) (bits .and .u64 (a : Int) (IntKind.u64.wrap (bits .and .u64 (y : Int) 72340172838076673 * 255))) = ((p ^^^ (a &&& ((y &&& 72340172838076673) * 255 % 18446744073709551616)) : Nat) : Int) := by
  have e2 := u64_and_nat y 72340172838076673 hy (by decide)
  have e2' : bits .and .u64 (y : Int) 72340172838076673 = ((y &&& 72340172838076673 : Nat) : Int) := e2
  rw [e2', show (255 : Int) = ((255 : Nat) : Int) from rfl, wrapM, u64_and_nat _ _ ha (Nat.mod_lt _ (by decide)), u64_xor_nat _ _ hp (Nat.lt_of_le_of_lt Nat.and_le_left ha)]
set_option maxHeartbeats 1000000 in
theorem times_any (a b : Nat) (w : World) (ha : a < 18446744073709551616) (hb : b < 18446744073709551616) :
    Calls Tryz.prog 134 #[.int .u64 (a : Int), .int .u64 (b : Int)] w fun e w' => e = .returned (.int .u64 ((tmW a b 8 : Nat) : Int)) ∧ w = w' := by
  have HA := hid ha; have HB := hid hb
  clear ha hb
  go_enter Tryz.func134, Tryz.ntmps134
  go_wp2
  go_loopg [0, 1, 5, 6] 8 (fun g x y p i wr => ∃ k : Nat, k + g = 8 ∧ i = .int .i64 (k : Int) ∧ x = .int .u64 ((dbW a k : Nat) : Int) ∧ y = .int .u64 ((b / 2 ^ k : Nat) : Int) ∧ p = .int .u64 ((tmW a b k : Nat) : Int) ∧ w = wr)
  case atStart => exact ⟨0, rfl, rfl, rfl, by simp, rfl, rfl⟩
  case round =>
    obtain ⟨k, hk, rfl, rfl, rfl, rfl, rfl⟩ := hrel
    have HK := hid hk
    have hk8 : k ≤ 8 := by omega
    obtain ⟨x, hx⟩ : ∃ n, n = dbW a k := ⟨_, rfl⟩
    obtain ⟨y, hy⟩ : ∃ n, n = b / 2 ^ k := ⟨_, rfl⟩
    obtain ⟨p, hp⟩ : ∃ n, n = tmW a b k := ⟨_, rfl⟩
    rw [← hx, ← hy, ← hp]
    have hxl : x < 18446744073709551616 := by rw [hx]; exact dbW_lt HA.out k
    have hyl : y < 18446744073709551616 := by rw [hy]; exact Nat.lt_of_le_of_lt (Nat.div_le_self _ _) HB.out
    have hpl : p < 18446744073709551616 := by rw [hp]; exact tmW_lt HA.out b k
    have HX := hid hx; have HY := hid hy; have HP := hid hp
    clear hk hx hy hp
    by_cases hlt : k < 8
    · have hki : (k : Int) < 8 := by omega
      have hbt := tm_bits64 p x y hpl hxl hyl
      have KD := hid (doubled_any x w hxl)
      have hwi : IntKind.i64.wrap ((k : Int) + 1) = ((k + 1 : Nat) : Int) := (IntWalk.i64_in _ (by omega)).trans (by omega)
      obtain ⟨z, hz⟩ : ∃ z, z = y / 2 := ⟨_, rfl⟩
      have hy2 : (y : Int) / 2 = (z : Int) := by omega
      have HZ := hid hz
      clear hz
      have HBT := hid hbt
      clear hbt hxl hyl hpl
      go_wp2_with fail
      refine KD.out.mono ?_
      rintro e w' ⟨rfl, rfl⟩
      go_wp2
      have hk := HK.out
      go_roundg (8 - k - 1)
      case measure => omega
      case rel => exact ⟨k + 1, by omega, rfl, by rw [dbW, ← HX.out], by rw [Nat.pow_succ, ← Nat.div_div_eq_div_mul, ← HY.out, ← HZ.out], by rw [HBT.out, tmW, ← HX.out, ← HY.out, ← HP.out], rfl⟩
    · have hki : ¬ (k : Int) < 8 := by omega
      have hk8e : k = 8 := by omega
      rw [hk8e] at HP
      clear hxl hyl hpl
      go_wp2
      go_ret
      exact ⟨ret_i (by rw [HP.out]), rfl⟩
theorem dbW_ln {f : Nat → Nat} (hf : ∀ i, f i < 256) : ∀ k, dbW (ln f 8) k = ln (fun i => dbk (f i) k) 8
  | 0 => rfl
  | k + 1 => by rw [dbW, dbW_ln hf k, dblW_ln (fun i => dbk_lt (hf i) k)]; rfl
theorem ln_zero : ∀ n, ln (fun _ => 0) n = 0
  | 0 => rfl
  | n + 1 => by show 0 + 256 * ln (fun _ => 0) n = 0; rw [ln_zero n]
theorem tmW_mb {f g : Nat → Nat} (hf : ∀ i, f i < 256) (hg : ∀ i, g i < 256) : ∀ k, k ≤ 8 → tmW (ln f 8) (ln g 8) k = ln (fun i => mb (f i) (g i) k) 8
  | 0, _ => (ln_zero 8).symm
  | k + 1, h => by rw [tmW, tmW_mb hf hg k (by omega), dbW_ln hf k, mulW_step hf hg k (by omega)]
theorem tmW_ln {f g : Nat → Nat} (hf : ∀ i, f i < 256) (hg : ∀ i, g i < 256) : tmW (ln f 8) (ln g 8) 8 = ln (fun i => tmN (f i) (g i)) 8 := by
  rw [tmW_mb hf hg 8 (by omega)]
  exact ln_congr 8 fun i _ => mb8 (hf i) (hg i)
/-- The powers of words. -/
def sqW (a : Nat) : Nat → Nat
  | 0 => a
  | k + 1 => tmW (sqW a k) (sqW a k) 8
def ivW (a : Nat) : Nat → Nat
  | 0 => 72340172838076673
  | k + 1 => tmW (ivW a k) (sqW a (k + 1)) 8
theorem sqW_lt {a : Nat} (ha : a < 18446744073709551616) : ∀ k, sqW a k < 18446744073709551616
  | 0 => ha
  | k + 1 => tmW_lt (sqW_lt ha k) _ 8
theorem ivW_lt {a : Nat} (ha : a < 18446744073709551616) : ∀ k, ivW a k < 18446744073709551616
  | 0 => by show 72340172838076673 < _; decide
  | k + 1 => tmW_lt (ivW_lt ha k) _ 8
theorem sqW_ln {f : Nat → Nat} (hf : ∀ i, f i < 256) : ∀ k, sqW (ln f 8) k = ln (fun i => sqk (f i) k) 8
  | 0 => rfl
  | k + 1 => by rw [sqW, sqW_ln hf k, tmW_ln (fun i => sqk_lt (hf i) k) (fun i => sqk_lt (hf i) k)]; rfl
theorem ivW_ln {f : Nat → Nat} (hf : ∀ i, f i < 256) : ∀ k, ivW (ln f 8) k = ln (fun i => ivk (f i) k) 8
  | 0 => by show 72340172838076673 = ln (fun _ => 1) 8; decide
  | k + 1 => by rw [ivW, ivW_ln hf k, sqW_ln hf (k + 1), tmW_ln (fun i => ivk_lt (hf i) k) (fun i => sqk_lt (hf i) (k + 1))]; rfl
set_option maxHeartbeats 1000000 in
theorem inverse_any (a : Nat) (w : World) (ha : a < 18446744073709551616) :
    Calls Tryz.prog 132 #[.int .u64 (a : Int)] w fun e w' => e = .returned (.int .u64 ((ivW a 7 : Nat) : Int)) ∧ w = w' := by
  have HA := hid ha
  clear ha
  go_enter Tryz.func132, Tryz.ntmps132
  go_wp2
  go_loopg [0, 3, 4] 7 (fun g x p i wr => ∃ k : Nat, k + g = 7 ∧ i = .int .i64 (k : Int) ∧ x = .int .u64 ((sqW a k : Nat) : Int) ∧ p = .int .u64 ((ivW a k : Nat) : Int) ∧ w = wr)
  case atStart => exact ⟨0, rfl, rfl, rfl, rfl, rfl⟩
  case round =>
    obtain ⟨k, hk, rfl, rfl, rfl, rfl⟩ := hrel
    have HK := hid hk
    have hk8 : k ≤ 7 := by omega
    obtain ⟨x, hx⟩ : ∃ n, n = sqW a k := ⟨_, rfl⟩
    obtain ⟨p, hp⟩ : ∃ n, n = ivW a k := ⟨_, rfl⟩
    rw [← hx, ← hp]
    have HX := hid hx; have HP := hid hp
    clear hk hx hp
    by_cases hlt : k < 7
    · have hki : (k : Int) < 7 := by omega
      have hxl : x < 18446744073709551616 := by rw [HX.out]; exact sqW_lt HA.out k
      have hpl : p < 18446744073709551616 := by rw [HP.out]; exact ivW_lt HA.out k
      obtain ⟨y, hy⟩ : ∃ n, n = tmW x x 8 := ⟨_, rfl⟩
      have K1 := hid (times_any x x w hxl hxl)
      rw [← hy] at K1
      have K2 := hid (times_any p y w hpl (by rw [hy]; exact tmW_lt hxl x 8))
      have HY := hid hy
      have hwi : IntKind.i64.wrap ((k : Int) + 1) = ((k + 1 : Nat) : Int) := (IntWalk.i64_in _ (by omega)).trans (by omega)
      clear hxl hpl hy
      go_wp2_with fail
      refine K1.out.mono ?_
      rintro e w' ⟨rfl, rfl⟩
      go_wp2_with fail
      refine K2.out.mono ?_
      rintro e w' ⟨rfl, rfl⟩
      go_wp2
      have hk := HK.out
      go_roundg (7 - k - 1)
      case measure => omega
      case rel => exact ⟨k + 1, by omega, rfl, by rw [HY.out, HX.out]; rfl, by rw [HP.out, HY.out, HX.out]; rfl, rfl⟩
    · have hki : ¬ (k : Int) < 7 := by omega
      have hk8e : k = 7 := by omega
      rw [hk8e] at HP
      go_wp2
      go_ret
      exact ⟨ret_i (by rw [HP.out]), rfl⟩
/-- What the box makes of eight bytes. -/
def boxW (x : Nat) : Nat := ivW x 7 ^^^ lowW (ivW x 7) 4 ^^^ lowW (ivW x 7) 5 ^^^ lowW (ivW x 7) 6 ^^^ lowW (ivW x 7) 7 ^^^ 7161677110969590627
theorem lowW_lt {x : Nat} (hx : x < 18446744073709551616) (n : Nat) : lowW x n < 18446744073709551616 :=
  Nat.or_lt_two_pow (n := 64) (Nat.lt_of_le_of_lt Nat.and_le_left (Nat.lt_of_le_of_lt (Nat.div_le_self _ _) hx)) (Nat.lt_of_le_of_lt Nat.and_le_left (Nat.mod_lt _ (by decide)))
theorem lowB_lt {b : Nat} (hb : b < 256) (n : Nat) : lowB b n < 256 :=
  or_b (and_b (Nat.lt_of_le_of_lt (Nat.div_le_self _ _) hb)) (and_b (Nat.mod_lt _ (by decide)))
theorem boxW_ln {f : Nat → Nat} (hf : ∀ i, f i < 256) : boxW (ln f 8) = ln (fun i => boxC (f i)) 8 := by
  have h : ∀ i, ivk (f i) 7 < 256 := fun i => ivk_lt (hf i) 7
  have l : ∀ n i, lowB (ivk (f i) 7) n < 256 := fun n i => lowB_lt (h i) n
  unfold boxW
  rw [ivW_ln hf 7, lowW_ln h 4 (by omega) (by omega), lowW_ln h 5 (by omega) (by omega), lowW_ln h 6 (by omega) (by omega), lowW_ln h 7 (by omega) (by omega),
    show 7161677110969590627 = ln (fun _ => 99) 8 by decide,
    ln_xor 8 h (l 4), ln_xor 8 (fun i => xor_b (h i) (l 4 i)) (l 5), ln_xor 8 (fun i => xor_b (xor_b (h i) (l 4 i)) (l 5 i)) (l 6),
    ln_xor 8 (fun i => xor_b (xor_b (xor_b (h i) (l 4 i)) (l 5 i)) (l 6 i)) (l 7), ln_xor 8 (fun i => xor_b (xor_b (xor_b (xor_b (h i) (l 4 i)) (l 5 i)) (l 6 i)) (l 7 i)) (fun _ => by omega)]
  rfl
set_option maxHeartbeats 1000000 in
theorem boxed_any (x : Nat) (w : World) (hx : x < 18446744073709551616) :
    Calls Tryz.prog 123 #[.int .u64 (x : Int)] w fun e w' => e = .returned (.int .u64 ((boxW x : Nat) : Int)) ∧ ∃ k, w' = w.drewN k := by
  have KI := hid (inverse_any x w hx)
  obtain ⟨y, hy⟩ : ∃ n, n = ivW x 7 := ⟨_, rfl⟩
  rw [← hy] at KI
  have hyl : y < 18446744073709551616 := by rw [hy]; exact ivW_lt hx 7
  have K4 : Hid (∀ W, _) := hid fun W => lowered_any y 4 4 W rfl hyl (by omega) (by omega)
  have K5 : Hid (∀ W, _) := hid fun W => lowered_any y 5 5 W rfl hyl (by omega) (by omega)
  have K6 : Hid (∀ W, _) := hid fun W => lowered_any y 6 6 W rfl hyl (by omega) (by omega)
  have K7 : Hid (∀ W, _) := hid fun W => lowered_any y 7 7 W rfl hyl (by omega) (by omega)
  obtain ⟨y4, h4⟩ : ∃ n, n = lowW y 4 := ⟨_, rfl⟩
  obtain ⟨y5, h5⟩ : ∃ n, n = lowW y 5 := ⟨_, rfl⟩
  obtain ⟨y6, h6⟩ : ∃ n, n = lowW y 6 := ⟨_, rfl⟩
  obtain ⟨y7, h7⟩ : ∃ n, n = lowW y 7 := ⟨_, rfl⟩
  rw [← h4] at K4; rw [← h5] at K5; rw [← h6] at K6; rw [← h7] at K7
  have HB : Hid (bits .xor .u64 (bits .xor .u64 (bits .xor .u64 (bits .xor .u64 (bits .xor .u64 (y : Int) (y4 : Int)) (y5 : Int)) (y6 : Int)) (y7 : Int)) 7161677110969590627 = ((boxW x : Nat) : Int)) := hid (by
    have l4 : y4 < 18446744073709551616 := by rw [h4]; exact lowW_lt hyl 4
    have l5 : y5 < 18446744073709551616 := by rw [h5]; exact lowW_lt hyl 5
    have l6 : y6 < 18446744073709551616 := by rw [h6]; exact lowW_lt hyl 6
    have l7 : y7 < 18446744073709551616 := by rw [h7]; exact lowW_lt hyl 7
    have x1 := Nat.xor_lt_two_pow (n := 64) hyl l4
    have x2 := Nat.xor_lt_two_pow (n := 64) x1 l5
    have x3 := Nat.xor_lt_two_pow (n := 64) x2 l6
    have x4 := Nat.xor_lt_two_pow (n := 64) x3 l7
    rw [u64_xor_nat _ _ hyl l4, u64_xor_nat _ _ x1 l5, u64_xor_nat _ _ x2 l6, u64_xor_nat _ _ x3 l7]
    refine (u64_xor_nat _ 7161677110969590627 x4 (by decide)).trans ?_
    rw [h4, h5, h6, h7, hy]; rfl)
  clear hx hy hyl h4 h5 h6 h7
  go_enter Tryz.func123, Tryz.ntmps123
  go_wp2_with fail
  refine KI.out.mono ?_
  rintro e w' ⟨rfl, rfl⟩
  go_wp2_with fail
  refine (K4.out _).mono ?_
  rintro e w' ⟨rfl, k4, rfl⟩
  go_wp2_with fail
  refine (K5.out _).mono ?_
  rintro e w' ⟨rfl, k5, rfl⟩
  go_wp2_with fail
  refine (K6.out _).mono ?_
  rintro e w' ⟨rfl, k6, rfl⟩
  go_wp2_with fail
  refine (K7.out _).mono ?_
  rintro e w' ⟨rfl, k7, rfl⟩
  go_wp2
  go_ret
  exact ⟨ret_i HB.out, k4 + k5 + k6 + k7, by simp only [World.drewN_drewN]⟩
end Go.Proofs.YtpkmidaflnbobaaGreatDoor
end
section
namespace Go.Proofs.YtpkmidaflnbobaaGreatDoor
set_option linter.unusedVariables false
set_option linter.unusedSimpArgs false
def col (S : Nat → Nat) (c : Nat) : Nat := ln (fun r => S (4 * c + r)) 4
theorem col_lt {S : Nat → Nat} (hS : ∀ i, S i < 256) (c : Nat) : col S c < 4294967296 := ln_lt 4 _ fun r => hS _
def cut (S : Nat → Nat) (k i : Nat) : Nat := if i < k then S i else 0
theorem cut_lt {S : Nat → Nat} (hS : ∀ i, S i < 256) (k i : Nat) : cut S k i < 256 := by
  unfold cut; split
  · exact hS i
  · decide
theorem cut_zero (S : Nat → Nat) (c : Nat) : col (cut S 0) c = 0 := (ln_congr 4 fun r _ => by simp [cut]).trans (ln_zero 4)
theorem cut_all (S : Nat → Nat) (k c : Nat) (hk : 16 ≤ k) (hc : c < 4) : col (cut S k) c = col S c := ln_congr 4 fun r hr => by simp [cut]; omega
theorem cut_other (S : Nat → Nat) (k c : Nat) (h : c ≠ k / 4) : col (cut S (k + 1)) c = col (cut S k) c := ln_congr 4 fun r hr => by
  unfold cut
  by_cases h1 : 4 * c + r < k
  · rw [if_pos h1, if_pos (by omega)]
  · rw [if_neg h1, if_neg (by omega)]
/-- One byte at its place. -/
theorem ln_at {x : Nat} (hx : x < 256) (j : Nat) (hj : j < 4) : x * 2 ^ (8 * j) % 4294967296 = ln (fun r => if r = j then x else 0) 4 := by
  have h : j = 0 ∨ j = 1 ∨ j = 2 ∨ j = 3 := by omega
  rcases h with rfl | rfl | rfl | rfl <;> simp [ln] <;> omega
theorem at_lt {x : Nat} (hx : x < 256) (j r : Nat) : (if r = j then x else 0) < 256 := by split <;> omega
theorem put_step {S : Nat → Nat} (hS : ∀ i, S i < 256) (k : Nat) (hk : k < 16) : col (cut S k) (k / 4) ||| (S k * 2 ^ (8 * (k % 4)) % 4294967296) = col (cut S (k + 1)) (k / 4) := by
  rw [ln_at (hS k) (k % 4) (by omega), col, ln_or 4 (fun r => cut_lt hS k _) (fun r => at_lt (hS k) _ r)]
  refine ln_congr 4 fun r hr => ?_
  unfold cut
  by_cases h : r = k % 4
  · have e : 4 * (k / 4) + r = k := by omega
    rw [e, if_neg (Nat.lt_irrefl k), if_pos h, if_pos (by omega), Nat.zero_or]
  · rw [if_neg h, Nat.or_zero]
    by_cases h1 : 4 * (k / 4) + r < k
    · rw [if_pos h1, if_pos (by omega)]
    · rw [if_neg h1, if_neg (by omega)]
/-- Each row turned. -/
def tur (S : Nat → Nat) (i : Nat) : Nat := S (4 * ((i / 4 + i % 4) % 4) + i % 4)
theorem tur_lt {S : Nat → Nat} (hS : ∀ i, S i < 256) (i : Nat) : tur S i < 256 := hS _
theorem tur_step {S : Nat → Nat} (hS : ∀ i, S i < 256) (c r : Nat) (hc : c < 4) (hr : r < 4) :
    col (cut (tur S) (4 * c + r)) c ||| (col S ((c + r) % 4) &&& (255 * 2 ^ (8 * r) % 4294967296)) = col (cut (tur S) (4 * c + r + 1)) c := by
  have h := put_step (tur_lt hS) (4 * c + r) (by omega)
  rw [show (4 * c + r) / 4 = c by omega, show (4 * c + r) % 4 = r by omega] at h
  rw [← h]
  congr 1
  rw [ln_at (x := 255) (by omega) r hr, ln_at (tur_lt hS _) r hr, col, ln_and 4 (fun i => hS _) (fun i => at_lt (by omega) _ i)]
  refine ln_congr 4 fun i hi => ?_
  by_cases h : i = r
  · subst h
    rw [if_pos rfl, if_pos rfl, mask_b _ (hS _)]
    unfold tur
    rw [show (4 * c + i) / 4 = c by omega, show (4 * c + i) % 4 = i by omega]
  · rw [if_neg h, if_neg h, Nat.and_zero]
/-- Turned by k bytes. -/
def rr (x k : Nat) : Nat := (x * 2 ^ (32 - k) % 4294967296) ||| (x / 2 ^ k)
theorem rr_ln {f : Nat → Nat} (hf : ∀ i, f i < 256) (k : Nat) (h1 : 1 ≤ k) (h3 : k ≤ 3) : rr (ln f 4) (8 * k) = ln (fun r => f ((r + k) % 4)) 4 := by
  refine ln_ext (fun i => hf _) fun i => ?_
  unfold rr
  rw [Nat.testBit_or, show 4294967296 = 2 ^ 32 from rfl, Nat.testBit_mod_two_pow, ← Nat.shiftLeft_eq, Nat.testBit_shiftLeft, Nat.testBit_div_two_pow, ln_bit 4 f hf, ln_bit 4 f hf]
  by_cases hi : i < 32
  · by_cases h : i ≥ 32 - 8 * k
    · rw [show (i - (32 - 8 * k)) / 8 = (i / 8 + k) % 4 by omega, show (i - (32 - 8 * k)) % 8 = i % 8 by omega,
        show decide (i < 32) = true by simp [hi], show decide (i ≥ 32 - 8 * k) = true by simp; omega, show decide (i - (32 - 8 * k) < 8 * 4) = true by simp; omega,
        show decide (i + 8 * k < 8 * 4) = false by simp; omega]
      simp
    · rw [show (i + 8 * k) / 8 = (i / 8 + k) % 4 by omega, show (i + 8 * k) % 8 = i % 8 by omega,
        show decide (i ≥ 32 - 8 * k) = false by simp; omega, show decide (i + 8 * k < 8 * 4) = true by simp; omega, show decide (i < 8 * 4) = true by simp; omega]
      simp
  · rw [show decide (i < 32) = false by simp; omega, show decide (i + 8 * k < 8 * 4) = false by simp; omega]
    simp
theorem rr_lt {x : Nat} (hx : x < 4294967296) (k : Nat) : rr x k < 4294967296 :=
  Nat.or_lt_two_pow (n := 32) (Nat.mod_lt _ (by decide)) (Nat.lt_of_le_of_lt (Nat.div_le_self _ _) hx)
theorem ln_mod4 {f : Nat → Nat} (hf : ∀ i, f i < 256) : ln f 8 % 4294967296 = ln f 4 := by
  refine ln_ext hf fun i => ?_
  rw [show 4294967296 = 2 ^ 32 from rfl, Nat.testBit_mod_two_pow, ln_bit 8 f hf]
  by_cases h : i < 32
  · rw [show decide (i < 32) = true by simp [h], show decide (i < 8 * 8) = true by simp; omega]; simp
  · rw [show decide (i < 32) = false by simp; omega]; simp
theorem ln_div4 {f : Nat → Nat} (hf : ∀ i, f i < 256) : ln f 8 / 4294967296 = ln (fun i => f (4 + i)) 4 := by
  refine ln_ext (fun i => hf _) fun i => ?_
  rw [show 4294967296 = 2 ^ 32 from rfl, Nat.testBit_div_two_pow, ln_bit 8 f hf, show (i + 32) / 8 = 4 + i / 8 by omega, show (i + 32) % 8 = i % 8 by omega]
  congr 1
  simp; omega
theorem ln_two {f : Nat → Nat} (hf : ∀ i, f i < 256) : ln f 4 ||| (ln (fun i => f (4 + i)) 4 * 4294967296 % 18446744073709551616) = ln f 8 := by
  refine ln_ext hf fun i => ?_
  rw [show 4294967296 = 2 ^ 32 from rfl, show 18446744073709551616 = 2 ^ 64 from rfl, Nat.testBit_or, Nat.testBit_mod_two_pow, ← Nat.shiftLeft_eq, Nat.testBit_shiftLeft, ln_bit 4 f hf, ln_bit 4 _ (fun i => hf _)]
  by_cases h : i < 32
  · rw [show decide (i ≥ 32) = false by simp; omega, show decide (i < 8 * 4) = true by simp; omega, show decide (i < 8 * 8) = true by simp; omega]; simp
  · by_cases h2 : i < 64
    · rw [show 4 + (i - 32) / 8 = i / 8 by omega, show (i - 32) % 8 = i % 8 by omega, show decide (i ≥ 32) = true by simp; omega, show decide (i < 8 * 4) = false by simp; omega, show decide (i < 8 * 8) = true by simp; omega,
        show decide (i - 32 < 8 * 4) = true by simp; omega]; simp
    · rw [show decide (i < 64) = false by simp; omega, show decide (i < 8 * 4) = false by simp; omega]; simp
theorem ln_pad {f : Nat → Nat} (hf : ∀ i, f i < 256) : ln f 4 = ln (fun i => if i < 4 then f i else 0) 8 := by
  refine ln_ext (fun i => by split <;> simp [hf]) fun i => ?_
  rw [ln_bit 4 f hf]
  by_cases h : i < 32
  · rw [show decide (i < 8 * 4) = true by simp; omega, show decide (i < 8 * 8) = true by simp; omega, if_pos (by omega)]
  · rw [show decide (i < 8 * 4) = false by simp; omega, if_neg (by omega)]; simp
/-- A column mixed: words. -/
def mixW (a : Nat) : Nat := dblW (a ^^^ rr a 8) % 4294967296 ^^^ rr a 8 ^^^ rr a 16 ^^^ rr a 24
def mixNa (f : Nat → Nat) (r : Nat) : Nat := dblN (f r ^^^ f ((r + 1) % 4)) ^^^ f ((r + 1) % 4) ^^^ f ((r + 2) % 4) ^^^ f ((r + 3) % 4)
theorem mixN_lt {f : Nat → Nat} (hf : ∀ i, f i < 256) (r : Nat) : mixNa f r < 256 := xor_b (xor_b (xor_b (dblN_lt (xor_b (hf _) (hf _))) (hf _)) (hf _)) (hf _)
theorem mixW_ln {f : Nat → Nat} (hf : ∀ i, f i < 256) : mixW (ln f 4) = ln (mixNa f) 4 := by
  unfold mixW
  have h1 := rr_ln hf 1 (by omega) (by omega)
  have h2 := rr_ln hf 2 (by omega) (by omega)
  have h3 := rr_ln hf 3 (by omega) (by omega)
  have a1 : ∀ i, f i ^^^ f ((i + 1) % 4) < 256 := fun i => xor_b (hf _) (hf _)
  have a2 : ∀ i, (if i < 4 then f i ^^^ f ((i + 1) % 4) else 0) < 256 := fun i => by split <;> simp [a1]
  rw [show 8 = 8 * 1 from rfl, show 16 = 8 * 2 from rfl, show 24 = 8 * 3 from rfl, h1, h2, h3, ln_xor 4 hf (fun i => hf _), ln_pad a1, dblW_ln a2, ln_mod4 (fun i => dblN_lt (a2 i)),
    ln_xor 4 (fun i => dblN_lt (a2 i)) (fun i => hf _), ln_xor 4 (fun i => xor_b (dblN_lt (a2 i)) (hf _)) (fun i => hf _), ln_xor 4 (fun i => xor_b (xor_b (dblN_lt (a2 i)) (hf _)) (hf _)) (fun i => hf _)]
  refine ln_congr 4 fun i hi => ?_
  rw [if_pos hi]
  rfl
/-- All columns. -/
def mixS (S : Nat → Nat) (i : Nat) : Nat := mixNa (fun r => S (4 * (i / 4) + r)) (i % 4)
theorem mixS_lt {S : Nat → Nat} (hS : ∀ i, S i < 256) (i : Nat) : mixS S i < 256 := mixN_lt (fun r => hS _) _
theorem mixW_col {S : Nat → Nat} (hS : ∀ i, S i < 256) (c : Nat) : mixW (col S c) = col (mixS S) c := by
  unfold col
  rw [mixW_ln (fun i => hS _)]
  refine ln_congr 4 fun r hr => ?_
  unfold mixS
  rw [show (4 * c + r) / 4 = c by omega, show (4 * c + r) % 4 = r by omega]
theorem xor_col {S W : Nat → Nat} (hS : ∀ i, S i < 256) (hW : ∀ i, W i < 256) (c : Nat) : col S c ^^^ col W c = col (fun i => S i ^^^ W i) c := ln_xor 4 (fun i => hS _) (fun i => hW _)
/-- Two columns put through the box. -/
def boxS (S : Nat → Nat) (i : Nat) : Nat := boxC (S i)
theorem boxS_lt {S : Nat → Nat} (hS : ∀ i, S i < 256) (i : Nat) : boxS S i < 256 := boxC_lt _ (hS i)
theorem two_col {S : Nat → Nat} (hS : ∀ i, S i < 256) (c : Nat) : col S c ||| (col S (c + 1) * 4294967296 % 18446744073709551616) = ln (fun i => S (4 * c + i)) 8 := by
  have h := ln_two (f := fun i => S (4 * c + i)) (fun i => hS _)
  unfold col
  rw [← h]
  have e : ln (fun r => S (4 * (c + 1) + r)) 4 = ln (fun i => S (4 * c + (4 + i))) 4 := ln_congr 4 fun r _ => by rw [show 4 * (c + 1) + r = 4 * c + (4 + r) by omega]
  rw [e]
theorem box_two {S : Nat → Nat} (hS : ∀ i, S i < 256) (c : Nat) : boxW (col S c ||| (col S (c + 1) * 4294967296 % 18446744073709551616)) % 4294967296 = col (boxS S) c ∧ boxW (col S c ||| (col S (c + 1) * 4294967296 % 18446744073709551616)) / 4294967296 = col (boxS S) (c + 1) := by
  have hb : ∀ i, boxC (S (4 * c + i)) < 256 := fun i => boxC_lt _ (hS _)
  rw [two_col hS c, boxW_ln (fun i => hS _)]
  refine ⟨(ln_mod4 hb).trans rfl, (ln_div4 hb).trans ?_⟩
  exact ln_congr 4 fun r _ => by unfold boxS; rw [show 4 * (c + 1) + r = 4 * c + (4 + r) by omega]
/-- The next four words. -/
def nxc (S : Nat → Nat) (p : Nat) : Nat → Nat → Nat
  | 0, r => boxC (S (12 + (r + 1) % 4)) ^^^ (if r = 0 then p else 0) ^^^ S r
  | c + 1, r => nxc S p c r ^^^ S (4 * (c + 1) + r)
theorem nxc_lt {S : Nat → Nat} (hS : ∀ i, S i < 256) {p : Nat} (hp : p < 256) : ∀ c r, nxc S p c r < 256
  | 0, r => xor_b (xor_b (boxC_lt _ (hS _)) (at_lt hp 0 r)) (hS _)
  | c + 1, r => xor_b (nxc_lt hS hp c r) (hS _)
def nx (S : Nat → Nat) (p i : Nat) : Nat := nxc S p (i / 4) (i % 4)
theorem nx_lt {S : Nat → Nat} (hS : ∀ i, S i < 256) {p : Nat} (hp : p < 256) (i : Nat) : nx S p i < 256 := nxc_lt hS hp _ _
theorem nx_begin {S : Nat → Nat} (hS : ∀ i, S i < 256) {p : Nat} (hp : p < 256) : boxW (rr (col S 3) 8) % 4294967296 ^^^ p ^^^ col S 0 = col (nx S p) 0 := by
  unfold col
  have a1 : ∀ i, boxC (if i < 4 then S (4 * 3 + (i + 1) % 4) else 0) < 256 := fun i => boxC_lt _ (by split <;> simp [hS])
  have a0 : ∀ i, (if i < 4 then S (4 * 3 + (i + 1) % 4) else 0) < 256 := fun i => by split <;> simp [hS]
  have e := ln_at hp 0 (by omega)
  rw [Nat.mul_zero, Nat.pow_zero, Nat.mul_one, Nat.mod_eq_of_lt (by omega)] at e
  have hr := rr_ln (f := fun r => S (4 * 3 + r)) (fun i => hS _) 1 (by omega) (by omega)
  rw [show (8 : Nat) = 8 * 1 from rfl, hr, ln_pad (fun i => hS _), boxW_ln a0, ln_mod4 a1]
  conv => lhs; rw [e]
  rw [ln_xor 4 a1 (fun i => at_lt hp 0 i), ln_xor 4 (fun i => xor_b (a1 i) (at_lt hp 0 i)) (fun i => hS _)]
  refine ln_congr 4 fun r hr => ?_
  unfold nx
  rw [if_pos hr, show (4 * 0 + r) / 4 = 0 by omega, show (4 * 0 + r) % 4 = r by omega, show 4 * 0 + r = r by omega]
  rfl
theorem nx_more {S : Nat → Nat} (hS : ∀ i, S i < 256) {p : Nat} (hp : p < 256) (c : Nat) : col (nx S p) c ^^^ col S (c + 1) = col (nx S p) (c + 1) := by
  unfold col
  rw [ln_xor 4 (fun i => nx_lt hS hp _) (fun i => hS _)]
  refine ln_congr 4 fun r hr => ?_
  unfold nx
  rw [show (4 * c + r) / 4 = c by omega, show (4 * c + r) % 4 = r by omega, show (4 * (c + 1) + r) / 4 = c + 1 by omega, show (4 * (c + 1) + r) % 4 = r by omega]
  rfl
end Go.Proofs.YtpkmidaflnbobaaGreatDoor
end
section
namespace Go.Proofs.YtpkmidaflnbobaaGreatDoor
open Go.RowKit
set_option linter.unusedVariables false
set_option linter.unusedSimpArgs false
abbrev SQT : TypeId := 95
/-- Four columns as an array. -/
def qF (f : Nat → Nat) : Array Value := #[.int .u32 (f 0 : Int), .int .u32 (f 1 : Int), .int .u32 (f 2 : Int), .int .u32 (f 3 : Int)]
theorem qF_size (f : Nat → Nat) : (qF f).size = 4 := rfl
theorem qF_one (f : Nat → Nat) : (qF f).all (·.oneCell') = true := by simp [qF, Value.oneCell']
theorem qF_get (f : Nat → Nat) (k : Nat) (h : k < 4) : (qF f)[k]? = some (.int .u32 (f k : Int)) := by
  have : k = 0 ∨ k = 1 ∨ k = 2 ∨ k = 3 := by omega
  rcases this with rfl | rfl | rfl | rfl <;> rfl
theorem qF_set (f : Nat → Nat) (k v : Nat) (h : k < 4) : (qF f).setIfInBounds k (.int .u32 (v : Int)) = qF (fun q => if q = k then v else f q) := by
  have : k = 0 ∨ k = 1 ∨ k = 2 ∨ k = 3 := by omega
  rcases this with rfl | rfl | rfl | rfl <;> rfl
theorem qF_congr {f g : Nat → Nat} (h : ∀ k, k < 4 → f k = g k) : qF f = qF g := by
  rw [qF, qF, h 0 (by omega), h 1 (by omega), h 2 (by omega), h 3 (by omega)]
theorem info4Q : (Tryz.prog.info? 95).map (·.size) = some 4 := by kernel_rfl
theorem undQ : Tryz.prog.underlying 95 = some (.array 4 78) := Tryz.underlying95
theorem qF_zero : qF (fun _ => 0) = #[Value.int .u32 0, .int .u32 0, .int .u32 0, .int .u32 0] := rfl
theorem xor_32 {a b : Nat} (ha : a < 4294967296) (hb : b < 4294967296) : a ^^^ b < 4294967296 := Nat.xor_lt_two_pow (n := 32) ha hb
set_option maxRecDepth 100000 in
set_option maxHeartbeats 800000 in
theorem against_any (f g : Nat → Nat) (w : World) (hf : ∀ k, k < 4 → f k < 4294967296) (hg : ∀ k, k < 4 → g k < 4294967296) :
    Calls Tryz.prog 107 #[.agg (qF f), .agg (qF g)] w fun e w' => e = .returned (.agg (qF fun k => f k ^^^ g k)) ∧ Below w.heap.size w w' := by
  have HF := hid hf; have HG := hid hg
  clear hf hg
  go_enter Tryz.func107, Tryz.ntmps107
  go_wp2
  rw [← qF_zero]
  have h0 : (((w.alloc (.cells (qF f) SQT)).alloc (.cells (qF g) SQT)).alloc (.cells (qF fun _ => 0) SQT)).heap[w.heap.size]? = some (.cells (qF f) SQT (0, 0)) := blkA (blkA (blkN rfl _ _) _) _
  have h1 : (((w.alloc (.cells (qF f) SQT)).alloc (.cells (qF g) SQT)).alloc (.cells (qF fun _ => 0) SQT)).heap[w.heap.size + 1]? = some (.cells (qF g) SQT (0, 0)) := blkA (blkN (by simp) _ _) _
  have h2 : (((w.alloc (.cells (qF f) SQT)).alloc (.cells (qF g) SQT)).alloc (.cells (qF fun _ => 0) SQT)).heap[w.heap.size + 1 + 1]? = some (.cells (qF fun _ => 0) SQT (0, 0)) := blkN (by simp) _ _
  have hb : Below w.heap.size w (((w.alloc (.cells (qF f) SQT)).alloc (.cells (qF g) SQT)).alloc (.cells (qF fun _ => 0) SQT)) :=
    (((Below.refl _ _).alloc (Nat.le_refl _) _).alloc (by simp) _).alloc (by simp; omega) _
  have H0 := hid h0; have H1 := hid h1; have H2 := hid h2; have HB := hid hb
  clear h0 h1 h2 hb
  generalize ((w.alloc (.cells (qF f) SQT)).alloc (.cells (qF g) SQT)).alloc (.cells (qF fun _ => 0) SQT) = w0 at *
  go_loopg [6] 4 (fun r c wr => ∃ i : Nat, i + r = 4 ∧ c = .int .i64 (i : Int) ∧ wr.heap[w.heap.size]? = some (.cells (qF fun k => if k < i then f k ^^^ g k else f k) SQT (0, 0)) ∧ wr.heap[w.heap.size + 1]? = some (.cells (qF g) SQT (0, 0)) ∧
    wr.heap[w.heap.size + 1 + 1]? = some (.cells (qF fun _ => 0) SQT (0, 0)) ∧ Below w.heap.size w wr)
  case atStart => exact ⟨0, rfl, rfl, H0.out, H1.out, H2.out, HB.out⟩
  case round =>
    clear H0 H1 H2 HB
    obtain ⟨i, hi, rfl, h0, h1, h2, hb⟩ := hrel
    have H0 := hid h0; have H1 := hid h1; have H2 := hid h2; have HB := hid hb; have HI := hid hi
    have hi4 : i ≤ 4 := by omega
    clear h0 h1 h2 hb hi
    by_cases hlt : i < 4
    · have hxi : (i : Int) < 4 := by omega
      have hi0 : (0 : Int) ≤ (i : Int) := by omega
      obtain ⟨a, ha⟩ : ∃ a, a = f i := ⟨_, rfl⟩
      obtain ⟨b, hb⟩ : ∃ b, b = g i := ⟨_, rfl⟩
      have hca : wr.cell? ⟨w.heap.size, i, none⟩ = some (.int .u32 (a : Int)) := cell_of H0.out i _ (by rw [qF_get _ i hlt, if_neg (Nat.lt_irrefl i), ha])
      have hcb : wr.cell? ⟨w.heap.size + 1, i, none⟩ = some (.int .u32 (b : Int)) := cell_of H1.out i _ (by rw [qF_get _ i hlt, hb])
      have hfz : wr.frozen? ⟨w.heap.size, i, none⟩ = false := frozen_of_row _ _ _ _ _ H0.out
      have hx : bits .xor .u32 (a : Int) (b : Int) = ((a ^^^ b : Nat) : Int) := u32_xor_nat a b (by rw [ha]; exact HF.out i hlt) (by rw [hb]; exact HG.out i hlt)
      have hwi : IntKind.i64.wrap ((i : Int) + 1) = ((i + 1 : Nat) : Int) := (IntWalk.i64_in _ (by omega)).trans (by omega)
      have HW : Hid ((wr.setCell ⟨w.heap.size, i, none⟩ (.int .u32 ((a ^^^ b : Nat) : Int))).heap[w.heap.size]? = some (.cells (qF fun k => if k < i + 1 then f k ^^^ g k else f k) SQT (0, 0))) := hid ((block_set H0.out i _).trans (by
        rw [qF_set _ _ _ hlt, ha, hb]
        congr 2
        refine qF_congr fun k _ => ?_
        by_cases h : k = i
        · subst h; simp
        · by_cases h2 : k < i
          · rw [if_neg h, if_pos h2, if_pos (by omega)]
          · rw [if_neg h, if_neg h2, if_neg (by omega)]))
      clear ha hb
      go_wp2
      refine wp_region_still_tail 7 (by kernel_rfl) (by kernel_rfl) ?_
      simp only [List.take_succ_cons, List.take_zero, List.drop_succ_cons, List.drop_zero]
      repeat still_step
      refine wpStill_nil ?_
      change wpList _ _ _ _ _ wr.drew
      go_wp2
      have hi := HI.out
      go_roundg (4 - i - 1)
      case measure => omega
      case rel => exact ⟨i + 1, by omega, rfl, HW.out, (heap_setCell_other _ _ _ _ (by simp)).trans H1.out, (heap_setCell_other _ _ _ _ (by simp <;> omega)).trans H2.out, (HB.out.setCell (by simp) _).drew⟩
    · have hi4e : i = 4 := by omega
      have H0' : Hid (wr.heap[w.heap.size]? = some (.cells (qF fun k => f k ^^^ g k) SQT (0, 0))) := hid (H0.out.trans (by
        congr 2
        exact qF_congr fun k hk => by rw [if_pos (by omega)]))
      have hxi : ¬ (i : Int) < 4 := by omega
      have HI2 : Hid ((Tryz.prog.info? 95).map (·.size) = some (qF fun k => f k ^^^ g k).size) := hid (info4Q.trans (congrArg some (qF_size _).symm))
      have HZ : Hid ((qF fun _ => 0).size = (qF fun k => f k ^^^ g k).size) := hid rfl
      have HO : Hid ((qF fun k => f k ^^^ g k).all (·.oneCell') = true) := hid (qF_one _)
      clear hi4e H0
      go_wp2_with (first
        | (with_reducible refine wpList_load_row rfl SQT (.tmp 2) rfl w.heap.size rfl SQT (qF fun k => f k ^^^ g k) (0, 0) _ H0'.out undQ rfl HI2.out ?_)
        | (with_reducible refine wpList_store_row rfl SQT (.tmp 4) _ rfl (w.heap.size + 1 + 1) (qF fun k => f k ^^^ g k) rfl rfl SQT (qF fun _ => 0) H2.out HI2.out HZ.out HO.out ?_))
      refine bodyPost_ret (v := .agg (qF fun k => f k ^^^ g k)) (results_cell_row rfl _ _ (w.heap.size + 1 + 1) SQT (qF fun k => f k ^^^ g k) (0, 0) _ rfl (setRow_heap _ _ _ _ _ _ H2.out) undQ rfl HI2.out) rfl ⟨rfl, ?_⟩
      exact belowRow HB.out (by omega) _
theorem wrap32 (v : Nat) : IntKind.u32.wrap ((v : Nat) : Int) = ((v % 4294967296 : Nat) : Int) := by rw [IntKind.wrap_u32]; omega
/-- The bytes of a text as a function. -/
def bf (m : List UInt8) (i : Nat) : Nat := (m.getD i 0).toNat
theorem bf_lt (m : List UInt8) (i : Nat) : bf m i < 256 := UInt8.toNat_lt _
theorem bf_at (m : List UInt8) (i : Nat) (h : i < m.length) : bf m i = (m[i]).toNat := by
  unfold bf
  rw [List.getD_eq_getElem?_getD, List.getElem?_eq_getElem h]; rfl
theorem quo4 {k q : Nat} (h : q = k / 4) (hk : k < 64) : ((k : Int)).tdiv 4 = (q : Int) ∧ (k : Int) / 4 = (q : Int) ∧ IntKind.i64.wrap (q : Int) = (q : Int) := by
  refine ⟨by rw [Int.tdiv_eq_ediv_of_nonneg (by omega)]; omega, by omega, IntWalk.i64_in _ (by omega)⟩
theorem rem4 {k r : Nat} (h : r = k % 4) (hk : k < 64) : ((k : Int)).tmod 4 = (r : Int) ∧ (k : Int) % 4 = (r : Int) ∧ IntKind.i64.wrap (r : Int) = (r : Int) := by
  refine ⟨by rw [Int.tmod_eq_emod_of_nonneg (by omega)]; omega, by omega, IntWalk.i64_in _ (by omega)⟩
theorem mul8 {r s : Nat} (h : s = 8 * r) (hr : r < 4) : IntKind.i64.wrap (8 * (r : Int)) = (s : Int) := (IntWalk.i64_in _ (by omega)).trans (by omega)
set_option maxRecDepth 100000 in
set_option maxHeartbeats 1000000 in
theorem squareOf_any (A : Option Addr) (m : List UInt8) (n c : Nat) (w : World) (hS : Sq w w.heap.size A c (bvs m)) (hm : m.length = 16) (hn : n = 16) :
    Calls Tryz.prog 84 #[.slice A n c] w fun e w' => e = .returned (.agg (qF (col (bf m)))) ∧ Below w.heap.size w w' := by
  subst hn
  have HS := hid hS
  have HM := hid hm
  clear hS hm
  go_enter Tryz.func84, Tryz.ntmps84
  go_wp2
  rw [← qF_zero]
  have hrow : ((w.alloc (.cells (qF fun _ => 0) SQT)).alloc (.cells (qF fun _ => 0) SQT)).heap[w.heap.size + 1]? = some (.cells (qF (col (cut (bf m) 0))) SQT (0, 0)) := (blkN (by simp) _ _).trans (by
    have e : qF (fun _ => 0) = qF (col (cut (bf m) 0)) := qF_congr fun k _ => (cut_zero _ k).symm
    rw [e])
  have hres : ((w.alloc (.cells (qF fun _ => 0) SQT)).alloc (.cells (qF fun _ => 0) SQT)).heap[w.heap.size]? = some (.cells (qF fun _ => 0) SQT (0, 0)) := blkA (blkN rfl _ _) _
  have hbel : Below w.heap.size w ((w.alloc (.cells (qF fun _ => 0) SQT)).alloc (.cells (qF fun _ => 0) SQT)) := ((Below.refl _ _).alloc (Nat.le_refl _) _).alloc (by simp) _
  have HROW := hid hrow; have HRES := hid hres; have HB := hid hbel
  clear hrow hres hbel
  generalize (w.alloc (.cells (qF fun _ => 0) SQT)).alloc (.cells (qF fun _ => 0) SQT) = w0 at *
  go_loopg [8] 16 (fun g i wr => ∃ k : Nat, k + g = 16 ∧ i = .int .i64 (k : Int) ∧ wr.heap[w.heap.size + 1]? = some (.cells (qF (col (cut (bf m) k))) SQT (0, 0)) ∧ wr.heap[w.heap.size]? = some (.cells (qF fun _ => 0) SQT (0, 0)) ∧ Below w.heap.size w wr)
  case atStart => exact ⟨0, by omega, rfl, HROW.out, HRES.out, HB.out⟩
  case round =>
    clear HROW HRES HB
    obtain ⟨k, hk, rfl, hrow, hres, hb⟩ := hrel
    have HK := hid hk; have HB := hid hb; have HROW := hid hrow; have HRES := hid hres
    have hkn : k ≤ 16 := by omega
    clear hk hb hrow hres
    by_cases hlt : k < 16
    · have hx : (k : Int) < 16 := by omega
      have hk0 : (0 : Int) ≤ (k : Int) := by omega
      obtain ⟨b, o, rfl, hbb, hcell⟩ := ((HS.out.below HB.out).lie).byte (k := k) (by rw [HM.out]; omega)
      have hyb := bf_at m k (by rw [HM.out]; omega)
      obtain ⟨y, hy⟩ : ∃ y, y = bf m k := ⟨_, rfl⟩
      rw [← hyb, ← hy] at hcell
      have hyl : y < 256 := by rw [hy]; exact bf_lt m k
      obtain ⟨q, hq⟩ : ∃ q, q = k / 4 := ⟨_, rfl⟩
      obtain ⟨r, hr⟩ : ∃ r, r = k % 4 := ⟨_, rfl⟩
      obtain ⟨s, hs⟩ : ∃ s, s = 8 * r := ⟨_, rfl⟩
      obtain ⟨hq1, hq2, hqw⟩ := quo4 hq (by omega)
      obtain ⟨hr1, hr2, hrw⟩ := rem4 hr (by omega)
      have hr4 : r < 4 := by omega
      have hq4 : q < 4 := by omega
      have hq4i : (q : Int) < 4 := by omega
      have hq0i : (0 : Int) ≤ (q : Int) := by omega
      have hsw := mul8 hs hr4
      have hs0 : (0 : Int) ≤ (s : Int) := by omega
      have hmin : min s 32 = s := by omega
      have hst := put_step (bf_lt m) k hlt
      rw [← hq, ← hr, ← hs, ← hy] at hst
      obtain ⟨v, hv⟩ : ∃ v, v = y * 2 ^ s % 4294967296 := ⟨_, rfl⟩
      have hvl : v < 4294967296 := by rw [hv]; exact Nat.mod_lt _ (by decide)
      have hsh : (y : Int) * 2 ^ s % 4294967296 = (v : Int) := by rw [hv]; simp
      have hsh2 : IntKind.u32.wrap ((y : Int) * 2 ^ s) = (v : Int) := by rw [IntKind.wrap_u32]; exact hsh
      have hyw : IntKind.u32.wrap (y : Int) = (y : Int) := by rw [wrap32, Nat.mod_eq_of_lt (by omega)]
      obtain ⟨W0, hW0⟩ : ∃ W0, W0 = col (cut (bf m) k) q := ⟨_, rfl⟩
      have hW0l : W0 < 4294967296 := by rw [hW0]; exact col_lt (cut_lt (bf_lt m) k) q
      rw [← hW0, ← hv] at hst
      have hor := u32_or_nat W0 v hW0l hvl
      have hct : wr.cell? ⟨w.heap.size + 1, q, none⟩ = some (.int .u32 (W0 : Int)) := cell_of HROW.out q _ (by rw [qF_get _ q hq4, hW0])
      have hft : wr.frozen? ⟨w.heap.size + 1, q, none⟩ = false := frozen_of_row _ _ _ _ _ HROW.out
      have hwi : IntKind.i64.wrap ((k : Int) + 1) = ((k + 1 : Nat) : Int) := (IntWalk.i64_in _ (by omega)).trans (by omega)
      have HW : Hid ((wr.setCell ⟨w.heap.size + 1, q, none⟩ (.int .u32 ((W0 ||| v : Nat) : Int))).heap[w.heap.size + 1]? = some (.cells (qF (col (cut (bf m) (k + 1)))) SQT (0, 0))) := hid ((block_set HROW.out q _).trans (by
        rw [qF_set _ _ _ hq4]
        congr 2
        refine qF_congr fun j _ => ?_
        by_cases h : j = q
        · subst h; rw [if_pos rfl, hst]
        · rw [if_neg h, cut_other _ _ _ (by rw [← hq]; exact h)]))
      clear hst hv hW0 hW0l hvl hy hyb hyl hq hr hs hr4 hq4
      go_wp2
      refine wp_region_still_tail 11 (by kernel_rfl) (by kernel_rfl) ?_
      simp only [List.take_succ_cons, List.take_zero, List.drop_succ_cons, List.drop_zero]
      repeat still_step
      refine wpStill_nil ?_
      change wpList _ _ _ _ _ wr.drew
      go_wp2
      have hk := HK.out
      go_roundg (16 - k - 1)
      case measure => omega
      case rel => exact ⟨k + 1, by omega, rfl, HW.out, (heap_setCell_other _ _ _ _ (by simp)).trans HRES.out, (HB.out.setCell (by simp) _).drew⟩
    · have hk16 : k = 16 := by omega
      have H0' : Hid (wr.heap[w.heap.size + 1]? = some (.cells (qF (col (bf m))) SQT (0, 0))) := hid (HROW.out.trans (by
        congr 2
        exact qF_congr fun j hj => cut_all _ k j (by omega) hj))
      have hxi : ¬ (k : Int) < 16 := by omega
      have HI2 : Hid ((Tryz.prog.info? 95).map (·.size) = some (qF (col (bf m))).size) := hid (info4Q.trans (congrArg some (qF_size _).symm))
      have HZ : Hid ((qF fun _ => 0).size = (qF (col (bf m))).size) := hid rfl
      have HO : Hid ((qF (col (bf m))).all (·.oneCell') = true) := hid (qF_one _)
      clear hk16 HROW
      go_wp2_with (first
        | (with_reducible refine wpList_load_row rfl SQT (.tmp 3) rfl (w.heap.size + 1) rfl SQT (qF (col (bf m))) (0, 0) _ H0'.out undQ rfl HI2.out ?_)
        | (with_reducible refine wpList_store_row rfl SQT (.tmp 2) _ rfl w.heap.size (qF (col (bf m))) rfl rfl SQT (qF fun _ => 0) HRES.out HI2.out HZ.out HO.out ?_))
      refine bodyPost_ret (v := .agg (qF (col (bf m)))) (results_cell_row rfl _ _ w.heap.size SQT (qF (col (bf m))) (0, 0) _ rfl (setRow_heap _ _ _ _ _ _ HRES.out) undQ rfl HI2.out) rfl ⟨rfl, ?_⟩
      exact belowRow HB.out (by omega) _
end Go.Proofs.YtpkmidaflnbobaaGreatDoor
end
section
namespace Go.Proofs.YtpkmidaflnbobaaGreatDoor
open Go.RowKit
set_option linter.unusedVariables false
set_option linter.unusedSimpArgs false
theorem bvs_cellA (xs : List UInt8) (j : Nat) (h : j < xs.length) : (bvs xs)[j]? = some (.int .u8 (xs[j].toNat : Int)) := by simp [bvs, h]
theorem bvs_set_at (xs : List UInt8) (k : Nat) (y : UInt8) : bvs (xs.set k y) = (bvs xs).set k (.int .u8 (y.toNat : Int)) := by
  unfold bvs; rw [List.map_set]
/-- Sixteen bytes. -/
def blkL (S : Nat → Nat) : List UInt8 := (List.range 16).map fun i => UInt8.ofNat (S i)
theorem blkL_length (S : Nat → Nat) : (blkL S).length = 16 := by simp [blkL]
theorem blkL_congr {S T : Nat → Nat} (h : ∀ i, i < 16 → S i = T i) : blkL S = blkL T := by
  unfold blkL
  exact List.map_congr_left fun i hi => by rw [h i (by simpa using hi)]
theorem blkL_at (S : Nat → Nat) (i : Nat) (h : i < 16) : (blkL S)[i]'(by rw [blkL_length]; exact h) = UInt8.ofNat (S i) := by simp [blkL]
theorem blkL_set (S : Nat → Nat) (k v : Nat) : (blkL S).set k (UInt8.ofNat v) = blkL fun q => if q = k then v else S q := by
  apply List.ext_getElem
  · simp [blkL]
  · intro i h1 h2
    rw [List.getElem_set]
    have hi : i < 16 := by simpa [blkL] using h2
    rw [blkL_at (fun q => if q = k then v else S q) i hi]
    by_cases h : k = i
    · rw [if_pos h, if_pos h.symm]
    · rw [if_neg h, if_neg (Ne.symm h), blkL_at _ i hi]
theorem ofNat_b {v : Nat} (h : v < 256) : (((UInt8.ofNat v).toNat : Nat) : Int) = (v : Int) := by rw [ofNat_val]; omega
def bR (S : Nat → Nat) : Array Value := (bvs (blkL S)).toArray
theorem bR_get (S : Nat → Nat) (hS : ∀ i, S i < 256) (k : Nat) (h : k < 16) : (bR S)[k]? = some (.int .u8 ((S k : Nat) : Int)) := by
  unfold bR
  rw [List.getElem?_toArray, bvs_cellA _ k (by rw [blkL_length]; exact h), blkL_at _ k h, ofNat_b (hS k)]
theorem bR_set (S : Nat → Nat) (k v : Nat) (hv : v < 256) : (bR S).setIfInBounds k (.int .u8 (v : Int)) = bR fun q => if q = k then v else S q := by
  unfold bR
  rw [← blkL_set, bvs_set_at, ofNat_b hv, List.setIfInBounds_toArray]
theorem bR_congr {S T : Nat → Nat} (h : ∀ i, i < 16 → S i = T i) : bR S = bR T := by unfold bR; rw [blkL_congr h]
theorem mk16 (W : World) : (Instr.makeSlice 22 (.int .i64 16) (.int .i64 16)).run Tryz.prog W = .ok (.slice (some ⟨W.heap.size, 0, none⟩) 16 16) (W.alloc (.cells (bR fun _ => 0) 5)) := by
  have h := run_make_row' (P := Tryz.prog) 22 5 (.int .u8 0) 1 Tryz.underlying22 infoU8 rfl .i64 .i64 16 (by omega) (by omega) W
  have hz : madeCells #[Value.int .u8 0] 16 = bR fun _ => 0 := by
    have e := toList_madeCells_one (Value.int .u8 0) 16
    refine Array.toList_inj.1 ?_
    rw [e]
    rfl
  rw [hz] at h
  exact h
theorem col_byte {S : Nat → Nat} (hS : ∀ i, S i < 256) (k : Nat) : col S (k / 4) / 2 ^ (8 * (k % 4)) % 256 = S k := by
  have e : S k = S (4 * (k / 4) + k % 4) := by congr 1; omega
  have hr : k % 4 < 4 := Nat.mod_lt _ (by decide)
  rw [e]
  generalize k / 4 = q at *
  generalize k % 4 = r at *
  have h0 := hS (4 * q + 0)
  have h1 := hS (4 * q + 1)
  have h2 := hS (4 * q + 2)
  have h3 := hS (4 * q + 3)
  have hc : col S q = S (4 * q + 0) + 256 * (S (4 * q + 1) + 256 * (S (4 * q + 2) + 256 * (S (4 * q + 3) + 256 * 0))) := rfl
  have h : r = 0 ∨ r = 1 ∨ r = 2 ∨ r = 3 := by omega
  rcases h with rfl | rfl | rfl | rfl <;> (try simp only [Nat.mul_zero, Nat.pow_zero, Nat.div_one, Nat.reduceMul, Nat.reducePow]) <;> omega
set_option maxHeartbeats 1000000 in
theorem sqbytes_any (S : Nat → Nat) (w : World) (hS : ∀ i, S i < 256) :
    Calls Tryz.prog 85 #[.agg (qF (col S))] w fun e w' => ∃ v, e = .returned v ∧ OwnB w' w.heap.size v (blkL S) ∧ Below w.heap.size w w' := by
  have HS := hid hS
  have hmk := mk16
  clear hS
  go_enter Tryz.func85, Tryz.ntmps85
  go_wp2
  clear hmk
  have h0 : ((w.alloc (.cells (qF (col S)) SQT)).alloc (.cells (bR fun _ => 0) 5)).heap[w.heap.size]? = some (.cells (qF (col S)) SQT (0, 0)) := blkA (blkN rfl _ _) _
  have h1 : ((w.alloc (.cells (qF (col S)) SQT)).alloc (.cells (bR fun _ => 0) 5)).heap[w.heap.size + 1]? = some (.cells (bR (cut S 0)) 5 (0, 0)) := (blkN (by simp) _ _).trans (by
    have e : bR (fun _ => 0) = bR (cut S 0) := bR_congr fun i _ => by simp [cut]
    rw [e])
  have hb : Below w.heap.size w ((w.alloc (.cells (qF (col S)) SQT)).alloc (.cells (bR fun _ => 0) 5)) :=
    ((Below.refl _ _).alloc (Nat.le_refl _) _).alloc (by simp) _
  have H0 := hid h0; have H1 := hid h1; have HB := hid hb
  clear h0 h1 hb
  generalize (w.alloc (.cells (qF (col S)) SQT)).alloc (.cells (bR fun _ => 0) 5) = w0 at *
  go_loopg [8] 16 (fun g i wr => ∃ k : Nat, k + g = 16 ∧ i = .int .i64 (k : Int) ∧ wr.heap[w.heap.size]? = some (.cells (qF (col S)) SQT (0, 0)) ∧ wr.heap[w.heap.size + 1]? = some (.cells (bR (cut S k)) 5 (0, 0)) ∧ Below w.heap.size w wr)
  case atStart => exact ⟨0, by omega, rfl, H0.out, H1.out, HB.out⟩
  case round =>
    clear H0 H1 HB
    obtain ⟨k, hk, rfl, h0, h1, hb⟩ := hrel
    have HK := hid hk; have HB := hid hb; have H0 := hid h0; have H1 := hid h1
    have hkn : k ≤ 16 := by omega
    clear hk hb h0 h1
    by_cases hlt : k < 16
    · have hx : (k : Int) < 16 := by omega
      have hk0 : (0 : Int) ≤ (k : Int) := by omega
      obtain ⟨q, hq⟩ : ∃ q, q = k / 4 := ⟨_, rfl⟩
      obtain ⟨r, hr⟩ : ∃ r, r = k % 4 := ⟨_, rfl⟩
      obtain ⟨s, hs⟩ : ∃ s, s = 8 * r := ⟨_, rfl⟩
      obtain ⟨hq1, hq2, hqw⟩ := quo4 hq (by omega)
      obtain ⟨hr1, hr2, hrw⟩ := rem4 hr (by omega)
      have hr4 : r < 4 := by omega
      have hq4 : q < 4 := by omega
      have hq4i : (q : Int) < 4 := by omega
      have hq0i : (0 : Int) ≤ (q : Int) := by omega
      have hsw := mul8 hs hr4
      have hs0 : (0 : Int) ≤ (s : Int) := by omega
      have hmin : min s 32 = s := by omega
      have hcb := col_byte HS.out k
      rw [← hq, ← hr, ← hs] at hcb
      obtain ⟨W0, hW0⟩ : ∃ W0, W0 = col S q := ⟨_, rfl⟩
      rw [← hW0] at hcb
      obtain ⟨y, hy⟩ : ∃ y, y = S k := ⟨_, rfl⟩
      have hyl : y < 256 := by rw [hy]; exact HS.out k
      rw [← hy] at hcb
      obtain ⟨d, hd⟩ : ∃ d, d = W0 / 2 ^ s := ⟨_, rfl⟩
      rw [← hd] at hcb
      have hdv : (W0 : Int) / 2 ^ s = (d : Int) := by rw [hd]; simp
      have hdm : (d : Int) % 256 = (y : Int) := by omega
      have hdw : IntKind.u8.wrap (d : Int) = (y : Int) := by rw [IntKind.wrap_u8]; exact hdm
      have hct : wr.cell? ⟨w.heap.size, q, none⟩ = some (.int .u32 (W0 : Int)) := cell_of H0.out q _ (by rw [qF_get _ q hq4, hW0])
      have hcs : wr.cell? ⟨w.heap.size + 1, k, none⟩ = some (.int .u8 ((cut S k k : Nat) : Int)) := cell_of H1.out k _ (bR_get _ (cut_lt HS.out k) k hlt)
      have hft : wr.frozen? ⟨w.heap.size + 1, k, none⟩ = false := frozen_of_row _ _ _ _ _ H1.out
      have hwi : IntKind.i64.wrap ((k : Int) + 1) = ((k + 1 : Nat) : Int) := (IntWalk.i64_in _ (by omega)).trans (by omega)
      have HW : Hid ((wr.setCell ⟨w.heap.size + 1, k, none⟩ (.int .u8 (y : Int))).heap[w.heap.size + 1]? = some (.cells (bR (cut S (k + 1))) 5 (0, 0))) := hid ((block_set H1.out k _).trans (by
        rw [bR_set _ _ _ hyl]
        have e : bR (fun q => if q = k then y else cut S k q) = bR (cut S (k + 1)) := bR_congr fun i _ => by
          unfold cut
          by_cases h : i = k
          · rw [if_pos h, if_pos (by omega), hy, h]
          · rw [if_neg h]
            by_cases h2 : i < k
            · rw [if_pos h2, if_pos (by omega)]
            · rw [if_neg h2, if_neg (by omega)]
        rw [e]))
      clear hcb hW0 hy hyl hd hq hr hs hr4 hq4
      go_wp2
      have hk := HK.out
      go_roundg (16 - k - 1)
      case measure => omega
      case rel => exact ⟨k + 1, by omega, rfl, (heap_setCell_other _ _ _ _ (by simp)).trans H0.out, HW.out, HB.out.setCell (by simp) _⟩
    · have hk16 : k = 16 := by omega
      have H1' : Hid (wr.heap[w.heap.size + 1]? = some (.cells (bR S) 5 (0, 0))) := hid (H1.out.trans (by
        have e : bR (cut S k) = bR S := bR_congr fun i hi => if_pos (by omega)
        rw [e]))
      have hxi : ¬ (k : Int) < 16 := by omega
      clear hk16 H1
      go_wp2
      go_ret
      refine ⟨_, rfl, ⟨by rw [bvs_length, blkL_length], .inr ⟨w.heap.size + 1, 16, bR S, ?_, by omega, H1'.out, by rw [blkL_length]; omega, by unfold maxLen; omega, ?_, ?_⟩⟩, HB.out⟩
      · rw [blkL_length]; rfl
      · simp [bR, blkL_length]
      · unfold bR; rw [List.take_of_length_le (by simp [blkL_length])]
end Go.Proofs.YtpkmidaflnbobaaGreatDoor
end
section
namespace Go.Proofs.YtpkmidaflnbobaaGreatDoor
open Go.RowKit
set_option linter.unusedVariables false
set_option linter.unusedSimpArgs false
theorem neg_and32 (n : Nat) (h0 : 0 < n) (h1 : n < 32) : bits .and .u64 (IntKind.u64.wrap (-(n : Int))) 31 = ((32 - n : Nat) : Int) := by
  have key : ∀ m : Fin 32, 0 < m.val → bits .and .u64 (IntKind.u64.wrap (-(m.val : Int))) 31 = ((32 - m.val : Nat) : Int) := by decide +kernel
  exact key ⟨n, h1⟩ h0
theorem rr_bits (x n : Nat) (hx : x < 4294967296) (h0 : 0 < n) (h1 : n < 32) :
    bits .or .u32 ((x : Int) * 2 ^ (32 - n) % 4294967296) ((x : Int) / 2 ^ (32 - (32 - n))) = ((rr x n : Nat) : Int) := by
  have e1 : (x : Int) * 2 ^ (32 - n) % 4294967296 = ((x * 2 ^ (32 - n) % 4294967296 : Nat) : Int) := by simp
  have e2 : (x : Int) / 2 ^ (32 - (32 - n)) = ((x / 2 ^ n : Nat) : Int) := by
    rw [show 32 - (32 - n) = n by omega]; simp
  rw [e1, e2, u32_or_nat _ _ (Nat.mod_lt _ (by omega)) (Nat.lt_of_le_of_lt (Nat.div_le_self _ _) hx)]
  rfl
theorem rot_any (x n : Nat) (z : Int) (w : World) (hz : z = -(n : Int)) (hx : x < 4294967296) (h0 : 0 < n) (h1 : n < 32) :
    Calls Tryz.prog 124 #[.int .u32 (x : Int), .int .i64 z] w fun e w' => e = .returned (.int .u32 (rr x n : Nat)) ∧ w = w' := by
  subst hz
  have hn := neg_and32 n h0 h1
  have HB := hid (rr_bits x n hx h0 h1)
  go_enter Tryz.func124, Tryz.ntmps124
  go_wp2
  go_ret
  exact ⟨ret_i HB.out, rfl⟩
theorem index_runQ (cs : Array Value) (k : Nat) (v : Value) (hk : k < 4) (hv : cs[k]? = some v) (W : World) : (Instr.index 95 (.agg cs) (.int .i64 (k : Int))).run Tryz.prog W = .ok v W := by
  have hu := run_underlying (P := Tryz.prog) Tryz.underlying95 W
  have hu2 := run_underlying (P := Tryz.prog) Tryz.underlying78 W
  have h8 : (k : Int) < 4 := by omega
  have hI : (Tryz.prog.info? 78).map (·.size) = some 1 := by kernel_rfl
  cases hq : Tryz.prog.info? 78 with
  | none => simp [hq] at hI
  | some i =>
    have hs : i.size = 1 := by simpa [hq] using hI
    simp [Instr.index, asIntOf, hu, part, isAgg, hu2, sizeOf, typeInfo, hq, hs, h8, hv]
    intro h; omega
set_option maxHeartbeats 1000000 in
theorem mixedA_any (S : Nat → Nat) (w : World) (hS : ∀ i, S i < 256) :
    Calls Tryz.prog 110 #[.agg (qF (col S))] w fun e w' => e = .returned (.agg (qF (col (mixS S)))) ∧ Below w.heap.size w w' := by
  have HS := hid hS
  clear hS
  have hA0 : ((w.alloc (.cells (qF (col S)) SQT)).alloc (.cells (qF fun _ => 0) SQT)).heap[w.heap.size]? = some (.cells (qF (col S)) SQT (0, 0)) := blkA (blkN rfl _ _) _
  have d0 := cell_of hA0 0 _ (qF_get _ 0 (by omega))
  have d1 := cell_of hA0 1 _ (qF_get _ 1 (by omega))
  have d2 := cell_of hA0 2 _ (qF_get _ 2 (by omega))
  have d3 := cell_of hA0 3 _ (qF_get _ 3 (by omega))
  rw [qF_zero] at d0 d1 d2 d3
  have HIX : Hid (∀ k : Nat, k < 4 → ∀ W : World, (Instr.index 95 (.agg #[.int .u32 ((col S 0 : Nat) : Int), .int .u32 ((col S 1 : Nat) : Int), .int .u32 ((col S 2 : Nat) : Int), .int .u32 ((col S 3 : Nat) : Int)]) (.int .i64 (k : Int))).run Tryz.prog W = .ok (.int .u32 ((col S k : Nat) : Int)) W) := hid fun k hk W => index_runQ _ k _ hk (qF_get _ k hk) W
  clear hA0
  go_enter Tryz.func110, Tryz.ntmps110
  go_wp2
  clear d0 d1 d2 d3
  rw [← qF_zero]
  have h0 : ((w.alloc (.cells (qF (col S)) SQT)).alloc (.cells (qF fun _ => 0) SQT)).heap[w.heap.size]? = some (.cells (qF fun k => if k < 0 then mixW (col S k) else col S k) SQT (0, 0)) := blkA (blkN rfl _ _) _
  have h1 : ((w.alloc (.cells (qF (col S)) SQT)).alloc (.cells (qF fun _ => 0) SQT)).heap[w.heap.size + 1]? = some (.cells (qF fun _ => 0) SQT (0, 0)) := blkN (by simp) _ _
  have hb : Below w.heap.size w ((w.alloc (.cells (qF (col S)) SQT)).alloc (.cells (qF fun _ => 0) SQT)) :=
    ((Below.refl _ _).alloc (Nat.le_refl _) _).alloc (by simp) _
  have H0 := hid h0; have H1 := hid h1; have HB := hid hb
  clear h0 h1 hb
  generalize (w.alloc (.cells (qF (col S)) SQT)).alloc (.cells (qF fun _ => 0) SQT) = w0 at *
  go_loopg [9] 4 (fun r c wr => ∃ i : Nat, i + r = 4 ∧ c = .int .i64 (i : Int) ∧ wr.heap[w.heap.size]? = some (.cells (qF fun k => if k < i then mixW (col S k) else col S k) SQT (0, 0)) ∧ wr.heap[w.heap.size + 1]? = some (.cells (qF fun _ => 0) SQT (0, 0)) ∧ Below w.heap.size w wr)
  case atStart => exact ⟨0, rfl, rfl, H0.out, H1.out, HB.out⟩
  case round =>
    clear H0 H1 HB
    obtain ⟨i, hi, rfl, h0, h1, hb⟩ := hrel
    have H0 := hid h0; have H1 := hid h1; have HB := hid hb; have HI := hid hi
    have hi4 : i ≤ 4 := by omega
    clear h0 h1 hb hi
    by_cases hlt : i < 4
    · have hxi : (i : Int) < 4 := by omega
      have hi0 : (0 : Int) ≤ (i : Int) := by omega
      have hix := HIX.out i hlt
      obtain ⟨a, ha⟩ : ∃ a, a = col S i := ⟨_, rfl⟩
      rw [← ha] at hix
      have hal : a < 4294967296 := by rw [ha]; exact col_lt HS.out i
      have K1 : Hid (∀ W, _) := hid fun W => rot_any a 8 (-8) W rfl hal (by omega) (by omega)
      have K2 : Hid (∀ W, _) := hid fun W => rot_any a 16 (-16) W rfl hal (by omega) (by omega)
      have K3 : Hid (∀ W, _) := hid fun W => rot_any a 24 (-24) W rfl hal (by omega) (by omega)
      obtain ⟨b, hb⟩ : ∃ b, b = rr a 8 := ⟨_, rfl⟩
      obtain ⟨c, hc⟩ : ∃ c, c = rr a 16 := ⟨_, rfl⟩
      obtain ⟨d, hd⟩ : ∃ d, d = rr a 24 := ⟨_, rfl⟩
      rw [← hb] at K1; rw [← hc] at K2; rw [← hd] at K3
      have hbl : b < 4294967296 := by rw [hb]; exact rr_lt hal 8
      have hcl : c < 4294967296 := by rw [hc]; exact rr_lt hal 16
      have hdl : d < 4294967296 := by rw [hd]; exact rr_lt hal 24
      obtain ⟨x, hx⟩ : ∃ x, x = a ^^^ b := ⟨_, rfl⟩
      have hxl : x < 4294967296 := by rw [hx]; exact xor_32 hal hbl
      have e1 := u32_xor_nat a b hal hbl
      rw [← hx] at e1
      have hxw : IntKind.u64.wrap (x : Int) = (x : Int) := by rw [wrapN, Nat.mod_eq_of_lt (by omega)]
      have K4 : Hid (∀ W, _) := hid fun W => doubled_any x W (by omega)
      obtain ⟨y, hy⟩ : ∃ y, y = dblW x := ⟨_, rfl⟩
      rw [← hy] at K4
      obtain ⟨z, hz⟩ : ∃ z, z = y % 4294967296 := ⟨_, rfl⟩
      have hzl : z < 4294967296 := by rw [hz]; exact Nat.mod_lt _ (by decide)
      have hyz : (y : Int) % 4294967296 = (z : Int) := by omega
      have hyw : IntKind.u32.wrap (y : Int) = (z : Int) := by rw [wrap32, hz]
      have e2 := u32_xor_nat z b hzl hbl
      have e3 := u32_xor_nat (z ^^^ b) c (xor_32 hzl hbl) hcl
      have e4 := u32_xor_nat (z ^^^ b ^^^ c) d (xor_32 (xor_32 hzl hbl) hcl) hdl
      obtain ⟨m1, hm1⟩ : ∃ m, m = z ^^^ b := ⟨_, rfl⟩
      obtain ⟨m2, hm2⟩ : ∃ m, m = m1 ^^^ c := ⟨_, rfl⟩
      obtain ⟨m3, hm3⟩ : ∃ m, m = m2 ^^^ d := ⟨_, rfl⟩
      rw [← hm1] at e2 e3 e4
      rw [← hm2] at e3 e4
      rw [← hm3] at e4
      have hmx : m3 = mixW (col S i) := by
        rw [hm3, hm2, hm1, hz, hy, hx, hb, hc, hd, ha]; rfl
      have hfz : wr.frozen? ⟨w.heap.size, i, none⟩ = false := frozen_of_row _ _ _ _ _ H0.out
      have hci : wr.cell? ⟨w.heap.size, i, none⟩ = some (.int .u32 (a : Int)) := cell_of H0.out i _ (by rw [qF_get _ i hlt, if_neg (Nat.lt_irrefl i), ha])
      have hwi : IntKind.i64.wrap ((i : Int) + 1) = ((i + 1 : Nat) : Int) := (IntWalk.i64_in _ (by omega)).trans (by omega)
      have HW : Hid ((wr.setCell ⟨w.heap.size, i, none⟩ (.int .u32 (m3 : Int))).heap[w.heap.size]? = some (.cells (qF fun k => if k < i + 1 then mixW (col S k) else col S k) SQT (0, 0))) := hid ((block_set H0.out i _).trans (by
        rw [qF_set _ _ _ hlt]
        have e : qF (fun q => if q = i then m3 else if q < i then mixW (col S q) else col S q) = qF (fun k => if k < i + 1 then mixW (col S k) else col S k) := qF_congr fun k _ => by
          by_cases h : k = i
          · rw [if_pos h, if_pos (by omega), hmx, h]
          · rw [if_neg h]
            by_cases h2 : k < i
            · rw [if_pos h2, if_pos (by omega)]
            · rw [if_neg h2, if_neg (by omega)]
        rw [e]))
      clear ha hal hb hc hd hbl hcl hdl hx hxl hy hz hzl hm1 hm2 hm3 hmx
      go_wp2_with fail
      refine (K1.out _).mono ?_
      rintro e w' ⟨rfl, rfl⟩
      go_wp2_with fail
      refine (K2.out _).mono ?_
      rintro e w' ⟨rfl, rfl⟩
      go_wp2_with fail
      refine (K3.out _).mono ?_
      rintro e w' ⟨rfl, rfl⟩
      go_wp2_with fail
      refine (K4.out _).mono ?_
      rintro e w' ⟨rfl, rfl⟩
      go_wp2
      have hi := HI.out
      go_roundg (4 - i - 1)
      case measure => omega
      case rel => exact ⟨i + 1, by omega, rfl, HW.out, (heap_setCell_other _ _ _ _ (by simp)).trans H1.out, HB.out.setCell (by simp) _⟩
    · have hie : i = 4 := by omega
      have H0' : Hid (wr.heap[w.heap.size]? = some (.cells (qF (col (mixS S))) SQT (0, 0))) := hid (H0.out.trans (by
        have e : qF (fun k => if k < i then mixW (col S k) else col S k) = qF (col (mixS S)) := qF_congr fun j hj => (if_pos (by omega)).trans (mixW_col HS.out j)
        rw [e]))
      have hxi : ¬ (i : Int) < 4 := by omega
      have HI2 : Hid ((Tryz.prog.info? 95).map (·.size) = some (qF (col (mixS S))).size) := hid (info4Q.trans (congrArg some (qF_size _).symm))
      have HZ : Hid ((qF fun _ => 0).size = (qF (col (mixS S))).size) := hid rfl
      have HO : Hid ((qF (col (mixS S))).all (·.oneCell') = true) := hid (qF_one _)
      clear hie H0
      go_wp2_with (first
        | (with_reducible refine wpList_load_row rfl SQT (.tmp 1) rfl w.heap.size rfl SQT (qF (col (mixS S))) (0, 0) _ H0'.out undQ rfl HI2.out ?_)
        | (with_reducible refine wpList_store_row rfl SQT (.tmp 2) _ rfl (w.heap.size + 1) (qF (col (mixS S))) rfl rfl SQT (qF fun _ => 0) H1.out HI2.out HZ.out HO.out ?_))
      refine bodyPost_ret (v := .agg (qF (col (mixS S)))) (results_cell_row rfl _ _ (w.heap.size + 1) SQT (qF (col (mixS S))) (0, 0) _ rfl (setRow_heap _ _ _ _ _ _ H1.out) undQ rfl HI2.out) rfl ⟨rfl, ?_⟩
      exact belowRow HB.out (by omega) _
set_option maxHeartbeats 1000000 in
theorem next_any (S : Nat → Nat) (p : Nat) (w : World) (hS : ∀ i, S i < 256) (hp : p < 256) :
    Calls Tryz.prog 111 #[.agg (qF (col S)), .int .u32 (p : Int)] w fun e w' => e = .returned (.agg (qF (col (nx S p)))) ∧ Below w.heap.size w w' := by
  have HS := hid hS; have HP := hid hp
  have hc3 : ((w.alloc (.cells (qF (col S)) SQT)).alloc (.cells (qF fun _ => 0) SQT)).cell? ⟨w.heap.size, 3, none⟩ = some (.int .u32 ((col S 3 : Nat) : Int)) := cell_of (blkA (blkN rfl _ _) _) 3 _ (qF_get _ 3 (by omega))
  rw [qF_zero] at hc3
  obtain ⟨a, ha⟩ : ∃ a, a = col S 3 := ⟨_, rfl⟩
  rw [← ha] at hc3
  have hal : a < 4294967296 := by rw [ha]; exact col_lt hS 3
  have K1 : Hid (∀ W, _) := hid fun W => rot_any a 8 (-8) W rfl hal (by omega) (by omega)
  obtain ⟨b, hb⟩ : ∃ b, b = rr a 8 := ⟨_, rfl⟩
  rw [← hb] at K1
  have hbl : b < 4294967296 := by rw [hb]; exact rr_lt hal 8
  have hbw : IntKind.u64.wrap (b : Int) = (b : Int) := by rw [wrapN, Nat.mod_eq_of_lt (by omega)]
  have K2 : Hid (∀ W, _) := hid fun W => boxed_any b W (by omega)
  obtain ⟨y, hy⟩ : ∃ y, y = boxW b := ⟨_, rfl⟩
  rw [← hy] at K2
  obtain ⟨z, hz⟩ : ∃ z, z = y % 4294967296 := ⟨_, rfl⟩
  have hzl : z < 4294967296 := by rw [hz]; exact Nat.mod_lt _ (by decide)
  have hyz : (y : Int) % 4294967296 = (z : Int) := by omega
  have hyw : IntKind.u32.wrap (y : Int) = (z : Int) := by rw [wrap32, hz]
  have e1 := u32_xor_nat z p hzl (by omega)
  obtain ⟨t0, ht0⟩ : ∃ t, t = z ^^^ p := ⟨_, rfl⟩
  rw [← ht0] at e1
  have ht0l : t0 < 4294967296 := by rw [ht0]; exact xor_32 hzl (by omega)
  have hbeg : t0 ^^^ col S 0 = col (nx S p) 0 := by rw [ht0, hz, hy, hb, ha]; exact nx_begin hS hp
  have HT0 := hid ht0l; have HBEG := hid hbeg
  clear hS hp ha hal hb hbl hy hz hzl ht0 ht0l hbeg
  go_enter Tryz.func111, Tryz.ntmps111
  go_wp2_with fail
  refine (K1.out _).mono ?_
  rintro e w' ⟨rfl, rfl⟩
  go_wp2_with fail
  refine (K2.out _).mono ?_
  rintro e w' ⟨rfl, kd, rfl⟩
  go_wp2
  clear hc3
  rw [← qF_zero]
  have h0 : (((w.alloc (.cells (qF (col S)) SQT)).alloc (.cells (qF fun _ => 0) SQT)).drewN kd).heap[w.heap.size]? = some (.cells (qF fun k => if k < 0 then col (nx S p) k else col S k) SQT (0, 0)) := blkA (blkN rfl _ _) _
  have h1 : (((w.alloc (.cells (qF (col S)) SQT)).alloc (.cells (qF fun _ => 0) SQT)).drewN kd).heap[w.heap.size + 1]? = some (.cells (qF fun _ => 0) SQT (0, 0)) := blkN (by simp) (qF fun _ => 0) SQT
  have hb : Below w.heap.size w (((w.alloc (.cells (qF (col S)) SQT)).alloc (.cells (qF fun _ => 0) SQT)).drewN kd) :=
    have h := ((Below.refl w.heap.size w).alloc (Nat.le_refl _) (.cells (qF (col S)) SQT)).alloc (by simp) (.cells (qF fun _ => 0) SQT)
    ⟨h.os, h.tape, h.output, h.size, h.block⟩
  have H0 := hid h0; have H1 := hid h1; have HB := hid hb
  clear h0 h1 hb
  generalize ((w.alloc (.cells (qF (col S)) SQT)).alloc (.cells (qF fun _ => 0) SQT)).drewN kd = w0 at *
  go_loopg [6, 17] 4 (fun r u c wr => ∃ i t : Nat, i + r = 4 ∧ c = .int .i64 (i : Int) ∧ u = .int .u32 (t : Int) ∧ t < 4294967296 ∧ (i < 4 → t ^^^ col S i = col (nx S p) i) ∧ wr.heap[w.heap.size]? = some (.cells (qF fun k => if k < i then col (nx S p) k else col S k) SQT (0, 0)) ∧ wr.heap[w.heap.size + 1]? = some (.cells (qF fun _ => 0) SQT (0, 0)) ∧ Below w.heap.size w wr)
  case atStart => exact ⟨0, t0, rfl, rfl, rfl, HT0.out, fun _ => HBEG.out, H0.out, H1.out, HB.out⟩
  case round =>
    clear H0 H1 HB HT0 HBEG e1
    obtain ⟨i, t, hi, rfl, rfl, htl, htx, h0, h1, hb⟩ := hrel
    have H0 := hid h0; have H1 := hid h1; have HB := hid hb; have HI := hid hi
    have hi4 : i ≤ 4 := by omega
    clear h0 h1 hb hi
    by_cases hlt : i < 4
    · have hxi : (i : Int) < 4 := by omega
      have hi0 : (0 : Int) ≤ (i : Int) := by omega
      obtain ⟨a, ha⟩ : ∃ a, a = col S i := ⟨_, rfl⟩
      have hal : a < 4294967296 := by rw [ha]; exact col_lt HS.out i
      obtain ⟨x, hx⟩ : ∃ x, x = t ^^^ a := ⟨_, rfl⟩
      have hxl : x < 4294967296 := by rw [hx]; exact xor_32 htl hal
      have e1 := u32_xor_nat t a htl hal
      rw [← hx] at e1
      have hxc : x = col (nx S p) i := by rw [hx, ha]; exact htx hlt
      have hnext : i + 1 < 4 → x ^^^ col S (i + 1) = col (nx S p) (i + 1) := fun _ => by rw [hxc]; exact nx_more HS.out HP.out i
      have hfz : wr.frozen? ⟨w.heap.size, i, none⟩ = false := frozen_of_row _ _ _ _ _ H0.out
      have hci : wr.cell? ⟨w.heap.size, i, none⟩ = some (.int .u32 (a : Int)) := cell_of H0.out i _ (by rw [qF_get _ i hlt, if_neg (Nat.lt_irrefl i), ha])
      have hwi : IntKind.i64.wrap ((i : Int) + 1) = ((i + 1 : Nat) : Int) := (IntWalk.i64_in _ (by omega)).trans (by omega)
      have HW : Hid ((wr.setCell ⟨w.heap.size, i, none⟩ (.int .u32 (x : Int))).heap[w.heap.size]? = some (.cells (qF fun k => if k < i + 1 then col (nx S p) k else col S k) SQT (0, 0))) := hid ((block_set H0.out i _).trans (by
        rw [qF_set _ _ _ hlt]
        have e : qF (fun q => if q = i then x else if q < i then col (nx S p) q else col S q) = qF (fun k => if k < i + 1 then col (nx S p) k else col S k) := qF_congr fun k _ => by
          by_cases h : k = i
          · rw [if_pos h, if_pos (by omega), hxc, h]
          · rw [if_neg h]
            by_cases h2 : k < i
            · rw [if_pos h2, if_pos (by omega)]
            · rw [if_neg h2, if_neg (by omega)]
        rw [e]))
      have HXL := hid hxl; have HNX := hid hnext
      clear ha hal hx hxl hxc hnext htx htl
      go_wp2
      have hi := HI.out
      go_roundg (4 - i - 1)
      case measure => omega
      case rel => exact ⟨i + 1, x, by omega, rfl, rfl, HXL.out, HNX.out, HW.out, (heap_setCell_other _ _ _ _ (by simp)).trans H1.out, HB.out.setCell (by simp) _⟩
    · have hie : i = 4 := by omega
      have H0' : Hid (wr.heap[w.heap.size]? = some (.cells (qF (col (nx S p))) SQT (0, 0))) := hid (H0.out.trans (by
        have e : qF (fun k => if k < i then col (nx S p) k else col S k) = qF (col (nx S p)) := qF_congr fun j hj => if_pos (by omega)
        rw [e]))
      have hxi : ¬ (i : Int) < 4 := by omega
      have HI2 : Hid ((Tryz.prog.info? 95).map (·.size) = some (qF (col (nx S p))).size) := hid (info4Q.trans (congrArg some (qF_size _).symm))
      have HZ : Hid ((qF fun _ => 0).size = (qF (col (nx S p))).size) := hid rfl
      have HO : Hid ((qF (col (nx S p))).all (·.oneCell') = true) := hid (qF_one _)
      clear hie H0 htl htx
      go_wp2_with (first
        | (with_reducible refine wpList_load_row rfl SQT (.tmp 2) rfl w.heap.size rfl SQT (qF (col (nx S p))) (0, 0) _ H0'.out undQ rfl HI2.out ?_)
        | (with_reducible refine wpList_store_row rfl SQT (.tmp 4) _ rfl (w.heap.size + 1) (qF (col (nx S p))) rfl rfl SQT (qF fun _ => 0) H1.out HI2.out HZ.out HO.out ?_))
      refine bodyPost_ret (v := .agg (qF (col (nx S p)))) (results_cell_row rfl _ _ (w.heap.size + 1) SQT (qF (col (nx S p))) (0, 0) _ rfl (setRow_heap _ _ _ _ _ _ H1.out) undQ rfl HI2.out) rfl ⟨rfl, ?_⟩
      exact belowRow HB.out (by omega) _
end Go.Proofs.YtpkmidaflnbobaaGreatDoor
end
section
namespace Go.Proofs.YtpkmidaflnbobaaGreatDoor
open Go.RowKit
set_option linter.unusedVariables false
set_option linter.unusedSimpArgs false
abbrev KWT : TypeId := 97
/-- Forty-four words as an array. -/
def kF (F : Nat → Nat) : Array Value := ((List.range 44).map fun i => Value.int .u32 (F i : Int)).toArray
abbrev z44 : Array Value := #[.int .u32 0, .int .u32 0, .int .u32 0, .int .u32 0, .int .u32 0, .int .u32 0, .int .u32 0, .int .u32 0, .int .u32 0, .int .u32 0, .int .u32 0, .int .u32 0, .int .u32 0, .int .u32 0, .int .u32 0, .int .u32 0, .int .u32 0, .int .u32 0, .int .u32 0, .int .u32 0, .int .u32 0, .int .u32 0, .int .u32 0, .int .u32 0, .int .u32 0, .int .u32 0, .int .u32 0, .int .u32 0, .int .u32 0, .int .u32 0, .int .u32 0, .int .u32 0, .int .u32 0, .int .u32 0, .int .u32 0, .int .u32 0, .int .u32 0, .int .u32 0, .int .u32 0, .int .u32 0, .int .u32 0, .int .u32 0, .int .u32 0, .int .u32 0]
abbrev k44 (a b c d : Nat) : Array Value := #[.int .u32 (a : Int), .int .u32 (b : Int), .int .u32 (c : Int), .int .u32 (d : Int), .int .u32 0, .int .u32 0, .int .u32 0, .int .u32 0, .int .u32 0, .int .u32 0, .int .u32 0, .int .u32 0, .int .u32 0, .int .u32 0, .int .u32 0, .int .u32 0, .int .u32 0, .int .u32 0, .int .u32 0, .int .u32 0, .int .u32 0, .int .u32 0, .int .u32 0, .int .u32 0, .int .u32 0, .int .u32 0, .int .u32 0, .int .u32 0, .int .u32 0, .int .u32 0, .int .u32 0, .int .u32 0, .int .u32 0, .int .u32 0, .int .u32 0, .int .u32 0, .int .u32 0, .int .u32 0, .int .u32 0, .int .u32 0, .int .u32 0, .int .u32 0, .int .u32 0, .int .u32 0]
theorem k44_is (f : Nat → Nat) : k44 (f 0) (f 1) (f 2) (f 3) = kF fun j => if j < 4 then f j else 0 := rfl
theorem kF_size (F : Nat → Nat) : (kF F).size = 44 := by simp [kF]
theorem kF_get (F : Nat → Nat) (k : Nat) (h : k < 44) : (kF F)[k]? = some (.int .u32 (F k : Int)) := by
  unfold kF
  rw [List.getElem?_toArray, List.getElem?_map, List.getElem?_range h]; rfl
theorem kF_one (F : Nat → Nat) : (kF F).all (·.oneCell') = true := by
  rw [Array.all_eq_true']
  intro v hv
  simp only [kF, List.mem_toArray, List.mem_map] at hv
  obtain ⟨x, _, rfl⟩ := hv
  rfl
theorem kF_congr {F G : Nat → Nat} (h : ∀ i, i < 44 → F i = G i) : kF F = kF G := by
  unfold kF
  congr 1
  exact List.map_congr_left fun i hi => by rw [h i (by simpa using hi)]
theorem info44 : (Tryz.prog.info? 97).map (·.size) = some 44 := by kernel_rfl
theorem undK : Tryz.prog.underlying 97 = some (.array 11 95) := Tryz.underlying97
theorem kF_set (F : Nat → Nat) (k v : Nat) (h : k < 44) : (kF F).setIfInBounds k (.int .u32 (v : Int)) = kF fun q => if q = k then v else F q := by
  unfold kF
  rw [List.setIfInBounds_toArray]
  congr 1
  apply List.ext_getElem
  · simp
  · intro i h1 h2
    rw [List.getElem_set]
    simp only [List.getElem_map, List.getElem_range]
    by_cases e : k = i
    · rw [if_pos e, if_pos e.symm]
    · rw [if_neg e, if_neg (Ne.symm e)]
/-- A key's words, four at a time. -/
def kW (K : Nat → Nat) : Nat → Nat → Nat
  | 0 => K
  | n + 1 => nx (kW K n) (dbk 1 n)
theorem pw_lt (n : Nat) : dbk 1 n < 256 := dbk_lt (by decide) n
theorem kW_lt {K : Nat → Nat} (hK : ∀ i, K i < 256) : ∀ n i, kW K n i < 256
  | 0, i => hK i
  | n + 1, i => nx_lt (kW_lt hK n) (pw_lt n) i
theorem pow_is : ∀ n, n < 11 → dbW 1 n = dbk 1 n := by decide +kernel
def wc (K : Nat → Nat) (j : Nat) : Nat := col (kW K (j / 4)) (j % 4)
def wcut (K : Nat → Nat) (n j : Nat) : Nat := if j < (n + 1) * 4 then wc K j else 0
/-- Four words more. -/
theorem wcut_next (K : Nat → Nat) (n : Nat) (hn : n < 10) :
    ((((kF (wcut K n)).setIfInBounds ((n + 1) * 4) (.int .u32 ((col (kW K (n + 1)) 0 : Nat) : Int))).setIfInBounds ((n + 1) * 4 + 1) (.int .u32 ((col (kW K (n + 1)) 1 : Nat) : Int))).setIfInBounds ((n + 1) * 4 + 1 + 1) (.int .u32 ((col (kW K (n + 1)) 2 : Nat) : Int))).setIfInBounds ((n + 1) * 4 + 1 + 1 + 1) (.int .u32 ((col (kW K (n + 1)) 3 : Nat) : Int)) = kF (wcut K (n + 1)) := by
  rw [kF_set _ _ _ (by omega), kF_set _ _ _ (by omega), kF_set _ _ _ (by omega), kF_set _ _ _ (by omega)]
  refine kF_congr fun i hi => ?_
  unfold wcut wc
  by_cases h3 : i = (n + 1) * 4 + 1 + 1 + 1
  · rw [if_pos h3, if_pos (by omega), show i / 4 = n + 1 by omega, show i % 4 = 3 by omega]
  · rw [if_neg h3]
    by_cases h2 : i = (n + 1) * 4 + 1 + 1
    · rw [if_pos h2, if_pos (by omega), show i / 4 = n + 1 by omega, show i % 4 = 2 by omega]
    · rw [if_neg h2]
      by_cases h1 : i = (n + 1) * 4 + 1
      · rw [if_pos h1, if_pos (by omega), show i / 4 = n + 1 by omega, show i % 4 = 1 by omega]
      · rw [if_neg h1]
        by_cases h0 : i = (n + 1) * 4
        · rw [if_pos h0, if_pos (by omega), show i / 4 = n + 1 by omega, show i % 4 = 0 by omega]
        · rw [if_neg h0]
          by_cases h : i < (n + 1) * 4
          · rw [if_pos h, if_pos (by omega)]
          · rw [if_neg h, if_neg (by omega)]
theorem set4A {w : World} {g : Nat} {cs : Array Value} {t : TypeId} (h : w.heap[g]? = some (.cells cs t (0, 0))) (o : Nat) (a b c d : Value) :
    (w.setCells g o [a, b, c, d]).heap[g]? = some (.cells ((((cs.setIfInBounds o a).setIfInBounds (o + 1) b).setIfInBounds (o + 1 + 1) c).setIfInBounds (o + 1 + 1 + 1) d) t (0, 0)) :=
  block_set (block_set (block_set (block_set h o a) (o + 1) b) (o + 1 + 1) c) (o + 1 + 1 + 1) d
theorem set4_other {w : World} {g k : Nat} (o : Nat) (a b c d : Value) (hk : k ≠ g) : (w.setCells g o [a, b, c, d]).heap[k]? = w.heap[k]? := by
  show ((((w.setCell ⟨g, o, none⟩ a).setCell ⟨g, o + 1, none⟩ b).setCell ⟨g, o + 1 + 1, none⟩ c).setCell ⟨g, o + 1 + 1 + 1, none⟩ d).heap[k]? = _
  rw [heap_setCell_other _ _ _ _ (by simpa using hk), heap_setCell_other _ _ _ _ (by simpa using hk), heap_setCell_other _ _ _ _ (by simpa using hk), heap_setCell_other _ _ _ _ (by simpa using hk)]
theorem set4_below {B : Nat} {v w : World} (h : Below B v w) {g : Nat} (o : Nat) (a b c d : Value) (hg : B ≤ g) : Below B v (w.setCells g o [a, b, c, d]) :=
  (((h.setCell (by simpa using hg) _).setCell (by simpa using hg) _).setCell (by simpa using hg) _).setCell (by simpa using hg) _
theorem row_there {w : World} {g : Nat} {F : Nat → Nat} (h : w.heap[g]? = some (.cells (kF F) KWT (0, 0))) (o n : Nat) (ho : o + n ≤ 44) : w.there g o n := fun j hj =>
  ⟨by rw [cell_of h (o + j) _ (kF_get _ _ (by omega))]; rfl, frozen_of_row _ _ _ _ _ h⟩
set_option maxHeartbeats 1000000 in
theorem wordsA_any (A : Option Addr) (m : List UInt8) (n c : Nat) (w : World) (hS : Sq w w.heap.size A c (bvs m)) (hm : m.length = 16) (hn : n = 16) :
    Calls Tryz.prog 83 #[.slice A n c] w fun e w' => e = .returned (.agg (kF (wc (bf m)))) ∧ Below w.heap.size w w' := by
  subst hn
  have HM := hid hm
  obtain ⟨a0, ha0⟩ : ∃ a, a = col (bf m) 0 := ⟨_, rfl⟩
  obtain ⟨a1, ha1⟩ : ∃ a, a = col (bf m) 1 := ⟨_, rfl⟩
  obtain ⟨a2, ha2⟩ : ∃ a, a = col (bf m) 2 := ⟨_, rfl⟩
  obtain ⟨a3, ha3⟩ : ∃ a, a = col (bf m) 3 := ⟨_, rfl⟩
  have HSQ : Hid (∀ W : World, Below w.heap.size w W → Calls Tryz.prog 84 #[.slice A (16 : Nat) c] W fun e w' => e = .returned (.agg #[.int .u32 (a0 : Int), .int .u32 (a1 : Int), .int .u32 (a2 : Int), .int .u32 (a3 : Int)]) ∧ Below W.heap.size W w') := hid fun W hW => by
    rw [ha0, ha1, ha2, ha3]
    exact squareOf_any A m 16 c W ((hS.below hW).more hW.size) hm rfl
  have HK44 : Hid (k44 a0 a1 a2 a3 = kF fun j => if j < 4 then col (bf m) j else 0) := hid (by rw [ha0, ha1, ha2, ha3]; exact k44_is _)
  clear hS hm ha0 ha1 ha2 ha3
  have HI44 : Hid ((Tryz.prog.info? 97).map (·.size) = some (k44 a0 a1 a2 a3).size) := hid (by rw [HK44.out]; exact info44.trans (congrArg some (kF_size _).symm))
  have HZ44 : Hid (z44.size = (k44 a0 a1 a2 a3).size) := hid rfl
  have HO44 : Hid ((k44 a0 a1 a2 a3).all (·.oneCell') = true) := hid (by rw [HK44.out]; exact kF_one _)
  go_enter Tryz.func83, Tryz.ntmps83
  go_wp2_with fail
  refine (HSQ.out _ ((Below.refl _ _).alloc (Nat.le_refl _) _)).mono ?_
  rintro e w1 ⟨rfl, hb1⟩
  have H1 : Hid ((w1.alloc (.cells z44 KWT)).heap[w1.heap.size]? = some (.cells z44 KWT (0, 0))) := hid (blkN rfl _ _)
  have hg1 : w1.heap[w.heap.size]? = some (.cells z44 KWT (0, 0)) := block_below hb1 (by simp) (blkN rfl _ _)
  have HG1 := hid hg1; have HB1 := hid hb1
  clear hg1 hb1
  go_wp2_with (with_reducible refine wpList_store_row rfl KWT (.tmp 3) _ rfl w1.heap.size (k44 a0 a1 a2 a3) rfl rfl KWT z44 H1.out HI44.out HZ44.out HO44.out ?_)
  have hk0 : k44 a0 a1 a2 a3 = kF (wcut (bf m) 0) := HK44.out.trans (kF_congr fun i hi => by
    unfold wcut wc
    by_cases h : i < 4
    · rw [if_pos h, if_pos (by omega), show i / 4 = 0 by omega, show i % 4 = i by omega]; rfl
    · rw [if_neg h, if_neg (by omega)])
  have hg2 : ((w1.alloc (.cells z44 KWT)).setRow w1.heap.size (k44 a0 a1 a2 a3)).heap[w1.heap.size]? = some (.cells (kF (wcut (bf m) 0)) KWT (0, 0)) := by rw [hk0]; exact setRow_heap _ _ _ _ _ _ H1.out
  have hsz1 : w.heap.size + 1 ≤ w1.heap.size := by have := HB1.out.size; simpa using this
  have hr2 : ((w1.alloc (.cells z44 KWT)).setRow w1.heap.size (k44 a0 a1 a2 a3)).heap[w.heap.size]? = some (.cells z44 KWT (0, 0)) := (setRow_other _ _ _ _ (by omega)).trans (blkA HG1.out _)
  have hb2 : Below w.heap.size w ((w1.alloc (.cells z44 KWT)).setRow w1.heap.size (k44 a0 a1 a2 a3)) := belowRow ((((Below.refl _ _).alloc (Nat.le_refl _) _).trans (HB1.out.mono (by simp))).alloc (by omega) _) (by omega) _
  have HG2 := hid hg2; have HR2 := hid hr2; have HB2 := hid hb2; have HSZ := hid hsz1
  clear hk0 hg2 hr2 hb2 H1 HG1 HB1 HI44 HZ44 HO44 hsz1
  generalize (w1.alloc (.cells z44 KWT)).setRow w1.heap.size (k44 a0 a1 a2 a3) = w2 at *
  go_loopg [4, 9] 10 (fun r p i wr => ∃ n : Nat, n + r = 10 ∧ i = .int .i64 (n : Int) ∧ p = .int .u64 ((dbk 1 n : Nat) : Int) ∧ wr.heap[w1.heap.size]? = some (.cells (kF (wcut (bf m) n)) KWT (0, 0)) ∧ wr.heap[w.heap.size]? = some (.cells z44 KWT (0, 0)) ∧ Below w.heap.size w wr)
  case atStart => exact ⟨0, rfl, rfl, rfl, HG2.out, HR2.out, HB2.out⟩
  case round =>
    clear HG2 HR2 HB2
    obtain ⟨n, hn, rfl, rfl, hg, hr, hb⟩ := hrel
    have HN := hid hn; have HG := hid hg; have HR := hid hr; have HB := hid hb
    have hn10 : n ≤ 10 := by omega
    clear hn hg hr hb
    obtain ⟨p, hp⟩ : ∃ p, p = dbk 1 n := ⟨_, rfl⟩
    rw [← hp]
    have hpl : p < 256 := by rw [hp]; exact pw_lt n
    have HP := hid hp
    clear hp
    by_cases hlt : n < 10
    · have hxi : (n : Int) < 10 := by omega
      have hx11 : (n : Int) < 11 := by omega
      have hn0 : (0 : Int) ≤ (n : Int) := by omega
      obtain ⟨q, hq⟩ : ∃ q, q = n + 1 := ⟨_, rfl⟩
      have hqw : IntKind.i64.wrap ((n : Int) + 1) = (q : Int) := (IntWalk.i64_in _ (by omega)).trans (by omega)
      have hq11 : (q : Int) < 11 := by omega
      have hq0 : (0 : Int) ≤ (q : Int) := by omega
      have hpw : IntKind.u32.wrap (p : Int) = (p : Int) := by rw [wrap32, Nat.mod_eq_of_lt (by omega)]
      have hpm : (p : Int) % 4294967296 = (p : Int) := by omega
      obtain ⟨x0, hx0⟩ : ∃ x, x = col (kW (bf m) n) 0 := ⟨_, rfl⟩
      obtain ⟨x1, hx1⟩ : ∃ x, x = col (kW (bf m) n) 1 := ⟨_, rfl⟩
      obtain ⟨x2, hx2⟩ : ∃ x, x = col (kW (bf m) n) 2 := ⟨_, rfl⟩
      obtain ⟨x3, hx3⟩ : ∃ x, x = col (kW (bf m) n) 3 := ⟨_, rfl⟩
      obtain ⟨y0, hy0⟩ : ∃ x, x = col (kW (bf m) (n + 1)) 0 := ⟨_, rfl⟩
      obtain ⟨y1, hy1⟩ : ∃ x, x = col (kW (bf m) (n + 1)) 1 := ⟨_, rfl⟩
      obtain ⟨y2, hy2⟩ : ∃ x, x = col (kW (bf m) (n + 1)) 2 := ⟨_, rfl⟩
      obtain ⟨y3, hy3⟩ : ∃ x, x = col (kW (bf m) (n + 1)) 3 := ⟨_, rfl⟩
      have HX : Hid (∀ W, Calls Tryz.prog 111 #[.agg #[.int .u32 (x0 : Int), .int .u32 (x1 : Int), .int .u32 (x2 : Int), .int .u32 (x3 : Int)], .int .u32 (p : Int)] W fun e w' => e = .returned (.agg #[.int .u32 (y0 : Int), .int .u32 (y1 : Int), .int .u32 (y2 : Int), .int .u32 (y3 : Int)]) ∧ Below W.heap.size W w') := hid fun W => by
        have h := next_any (kW (bf m) n) p W (kW_lt (bf_lt m) n) hpl
        rw [hx0, hx1, hx2, hx3, hy0, hy1, hy2, hy3]
        have e : nx (kW (bf m) n) p = kW (bf m) (n + 1) := by rw [HP.out]; rfl
        rw [e] at h
        exact h
      have HD : Hid (∀ W, Calls Tryz.prog 112 #[.int .u64 (p : Int)] W fun e w' => e = .returned (.int .u64 ((dbk 1 (n + 1) : Nat) : Int)) ∧ W = w') := hid fun W => by
        have h := doubled_any p W (by omega)
        have e : dblW p = dbk 1 (n + 1) := by rw [HP.out, ← pow_is n (by omega), ← pow_is (n + 1) (by omega)]; rfl
        rw [e] at h
        exact h
      have hd0 : wr.cell? ⟨w1.heap.size, n * 4, none⟩ = some (.int .u32 (x0 : Int)) := cell_of HG.out (n * 4) _ (by rw [kF_get _ _ (by omega), hx0, wcut, wc, if_pos (by omega), show n * 4 / 4 = n by omega, show n * 4 % 4 = 0 by omega])
      have hd1 : wr.cell? ⟨w1.heap.size, n * 4 + 1, none⟩ = some (.int .u32 (x1 : Int)) := cell_of HG.out (n * 4 + 1) _ (by rw [kF_get _ _ (by omega), hx1, wcut, wc, if_pos (by omega), show (n * 4 + 1) / 4 = n by omega, show (n * 4 + 1) % 4 = 1 by omega])
      have hd2 : wr.cell? ⟨w1.heap.size, n * 4 + 2, none⟩ = some (.int .u32 (x2 : Int)) := cell_of HG.out (n * 4 + 2) _ (by rw [kF_get _ _ (by omega), hx2, wcut, wc, if_pos (by omega), show (n * 4 + 2) / 4 = n by omega, show (n * 4 + 2) % 4 = 2 by omega])
      have hd3 : wr.cell? ⟨w1.heap.size, n * 4 + 3, none⟩ = some (.int .u32 (x3 : Int)) := cell_of HG.out (n * 4 + 3) _ (by rw [kF_get _ _ (by omega), hx3, wcut, wc, if_pos (by omega), show (n * 4 + 3) / 4 = n by omega, show (n * 4 + 3) % 4 = 3 by omega])
      have hnx := wcut_next (bf m) n hlt
      rw [← hy0, ← hy1, ← hy2, ← hy3] at hnx
      have HNX := hid hnx
      have HQ := hid hq
      have HI4 : Hid ((Tryz.prog.info? 95).map (·.size) = some (#[Value.int .u32 (y0 : Int), .int .u32 (y1 : Int), .int .u32 (y2 : Int), .int .u32 (y3 : Int)] : Array Value).size) := hid info4Q
      have HO4 : Hid ((#[Value.int .u32 (y0 : Int), .int .u32 (y1 : Int), .int .u32 (y2 : Int), .int .u32 (y3 : Int)] : Array Value).all (·.oneCell') = true) := hid (by simp [Value.oneCell'])
      clear hpl hq hx0 hx1 hx2 hx3 hy0 hy1 hy2 hy3 hnx
      go_wp2_with fail
      refine (HX.out _).mono ?_
      rintro e w3 ⟨rfl, hb3⟩
      have hg3 := block_below hb3 (block_lt HG.out) HG.out
      have hr3 := block_below hb3 (block_lt HR.out) HR.out
      have hB3 : Below w.heap.size w w3 := HB.out.trans (hb3.mono HB.out.size)
      have HT : Hid (w3.there w1.heap.size (q * 4) (#[Value.int .u32 (y0 : Int), .int .u32 (y1 : Int), .int .u32 (y2 : Int), .int .u32 (y3 : Int)] : Array Value).size) := hid (row_there hg3 (q * 4) 4 (by omega))
      have HG4 : Hid ((w3.setCells w1.heap.size (q * 4) [.int .u32 (y0 : Int), .int .u32 (y1 : Int), .int .u32 (y2 : Int), .int .u32 (y3 : Int)]).heap[w1.heap.size]? = some (.cells (kF (wcut (bf m) (n + 1))) KWT (0, 0))) := hid ((set4A hg3 (q * 4) _ _ _ _).trans (by rw [HQ.out, HNX.out]))
      have HR4 : Hid ((w3.setCells w1.heap.size (q * 4) [.int .u32 (y0 : Int), .int .u32 (y1 : Int), .int .u32 (y2 : Int), .int .u32 (y3 : Int)]).heap[w.heap.size]? = some (.cells z44 KWT (0, 0))) := hid ((set4_other (q * 4) _ _ _ _ (by have := HSZ.out; omega)).trans hr3)
      have HB4 : Hid (Below w.heap.size w (w3.setCells w1.heap.size (q * 4) [.int .u32 (y0 : Int), .int .u32 (y1 : Int), .int .u32 (y2 : Int), .int .u32 (y3 : Int)])) := hid (set4_below hB3 (q * 4) _ _ _ _ (by have := HSZ.out; omega))
      clear hb3 hg3 hr3 hB3 hd0 hd1 hd2 hd3
      go_wp2_with (with_reducible refine wpList_store_mid rfl SQT (.tmp 20) (.tmp 19) rfl w1.heap.size (q * 4) #[.int .u32 (y0 : Int), .int .u32 (y1 : Int), .int .u32 (y2 : Int), .int .u32 (y3 : Int)] rfl rfl HT.out HI4.out HO4.out ?_)
      refine (HD.out _).mono ?_
      rintro e w5 ⟨rfl, rfl⟩
      have hwi : IntKind.i64.wrap ((n : Int) + 1) = ((n + 1 : Nat) : Int) := (IntWalk.i64_in _ (by omega)).trans (by omega)
      go_wp2
      have hn := HN.out
      go_roundg (10 - n - 1)
      case measure => omega
      case rel => exact ⟨n + 1, by omega, by go_num, rfl, HG4.out, HR4.out, HB4.out⟩
    · have hne : n = 10 := by omega
      have hGe : wr.heap[w1.heap.size]? = some (.cells (kF (wc (bf m))) KWT (0, 0)) := HG.out.trans (by
        have e : kF (wcut (bf m) n) = kF (wc (bf m)) := kF_congr fun i hi => if_pos (by omega)
        rw [e])
      have HGE := hid hGe
      have hxi : ¬ (n : Int) < 10 := by omega
      have HI2 : Hid ((Tryz.prog.info? 97).map (·.size) = some (kF (wc (bf m))).size) := hid (info44.trans (congrArg some (kF_size _).symm))
      have HZ : Hid (z44.size = (kF (wc (bf m))).size) := hid (kF_size _).symm
      have HO : Hid ((kF (wc (bf m))).all (·.oneCell') = true) := hid (kF_one _)
      clear hne HG hGe hpl
      go_wp2_with (first
        | (with_reducible refine wpList_load_row rfl KWT (.tmp 3) rfl w1.heap.size rfl KWT (kF (wc (bf m))) (0, 0) _ HGE.out undK rfl HI2.out ?_)
        | (with_reducible refine wpList_store_row rfl KWT (.tmp 2) _ rfl w.heap.size (kF (wc (bf m))) rfl rfl KWT z44 HR.out HI2.out HZ.out HO.out ?_))
      refine bodyPost_ret (v := .agg (kF (wc (bf m)))) (results_cell_row rfl _ _ w.heap.size KWT (kF (wc (bf m))) (0, 0) _ rfl (setRow_heap _ _ _ _ _ _ HR.out) undK rfl HI2.out) rfl ⟨rfl, ?_⟩
      exact belowRow HB.out (by omega) _
end Go.Proofs.YtpkmidaflnbobaaGreatDoor
end
section
namespace Go.Proofs.YtpkmidaflnbobaaGreatDoor
open Go.RowKit
set_option linter.unusedVariables false
set_option linter.unusedSimpArgs false
set_option maxRecDepth 100000 in
set_option maxHeartbeats 1000000 in
theorem turnedA_any (S : Nat → Nat) (w : World) (hS : ∀ i, S i < 256) :
    Calls Tryz.prog 109 #[.agg (qF (col S))] w fun e w' => e = .returned (.agg (qF (col (tur S)))) ∧ Below w.heap.size w w' := by
  have HS := hid hS
  clear hS
  go_enter Tryz.func109, Tryz.ntmps109
  go_wp2
  rw [← qF_zero]
  have h0 : (((w.alloc (.cells (qF (col S)) SQT)).alloc (.cells (qF fun _ => 0) SQT)).alloc (.cells (qF fun _ => 0) SQT)).heap[w.heap.size]? = some (.cells (qF (col S)) SQT (0, 0)) := blkA (blkA (blkN rfl _ _) _) _
  have h1 : (((w.alloc (.cells (qF (col S)) SQT)).alloc (.cells (qF fun _ => 0) SQT)).alloc (.cells (qF fun _ => 0) SQT)).heap[w.heap.size + 1]? = some (.cells (qF fun _ => 0) SQT (0, 0)) := blkA (blkN (by simp) _ _) _
  have h2 : (((w.alloc (.cells (qF (col S)) SQT)).alloc (.cells (qF fun _ => 0) SQT)).alloc (.cells (qF fun _ => 0) SQT)).heap[w.heap.size + 1 + 1]? = some (.cells (qF (col (cut (tur S) 0))) SQT (0, 0)) := (blkN (by simp) _ _).trans (by
    have e : qF (fun _ => 0) = qF (col (cut (tur S) 0)) := qF_congr fun k _ => (cut_zero _ k).symm
    rw [e])
  have hb : Below w.heap.size w (((w.alloc (.cells (qF (col S)) SQT)).alloc (.cells (qF fun _ => 0) SQT)).alloc (.cells (qF fun _ => 0) SQT)) :=
    (((Below.refl _ _).alloc (Nat.le_refl _) _).alloc (by simp) _).alloc (by simp; omega) _
  have H0 := hid h0; have H1 := hid h1; have H2 := hid h2; have HB := hid hb
  clear h0 h1 h2 hb
  generalize ((w.alloc (.cells (qF (col S)) SQT)).alloc (.cells (qF fun _ => 0) SQT)).alloc (.cells (qF fun _ => 0) SQT) = w0 at *
  go_loopg [6] 4 (fun r c wr => ∃ i : Nat, i + r = 4 ∧ c = .int .i64 (i : Int) ∧ wr.heap[w.heap.size]? = some (.cells (qF (col S)) SQT (0, 0)) ∧ wr.heap[w.heap.size + 1]? = some (.cells (qF fun _ => 0) SQT (0, 0)) ∧
    wr.heap[w.heap.size + 1 + 1]? = some (.cells (qF (col (cut (tur S) (4 * i)))) SQT (0, 0)) ∧ Below w.heap.size w wr)
  case atStart => exact ⟨0, rfl, rfl, H0.out, H1.out, H2.out, HB.out⟩
  case round =>
    clear H0 H1 H2 HB
    obtain ⟨i, hi, rfl, h0, h1, h2, hb⟩ := hrel
    obtain ⟨wo, rfl⟩ : ∃ wo : World, wo = wr := ⟨_, rfl⟩
    have H0 := hid h0; have H1 := hid h1; have H2 := hid h2; have HB := hid hb; have HI := hid hi
    have hi4 : i ≤ 4 := by omega
    clear h0 h1 h2 hb hi
    by_cases hlt : i < 4
    · have hxi : (i : Int) < 4 := by omega
      have hi0 : (0 : Int) ≤ (i : Int) := by omega
      go_wp2
      go_loopg [9] 4 (fun g c wr => ∃ j : Nat, j + g = 4 ∧ c = .int .i64 (j : Int) ∧ wr.heap[w.heap.size]? = some (.cells (qF (col S)) SQT (0, 0)) ∧ wr.heap[w.heap.size + 1]? = some (.cells (qF fun _ => 0) SQT (0, 0)) ∧
        wr.heap[w.heap.size + 1 + 1]? = some (.cells (qF (col (cut (tur S) (4 * i + j)))) SQT (0, 0)) ∧ Below w.heap.size w wr)
      case atStart => exact ⟨0, rfl, rfl, H0.out, H1.out, H2.out, HB.out⟩
      case round =>
        clear H0 H1 H2 HB
        obtain ⟨j, hj, rfl, h0, h1, h2, hb⟩ := hrel
        have H0 := hid h0; have H1 := hid h1; have H2 := hid h2; have HB := hid hb; have HJ := hid hj
        have hj4 : j ≤ 4 := by omega
        clear h0 h1 h2 hb hj
        by_cases hlt2 : j < 4
        · have hxj : (j : Int) < 4 := by omega
          have hj0 : (0 : Int) ≤ (j : Int) := by omega
          obtain ⟨m, hm⟩ : ∃ m, m = i + j := ⟨_, rfl⟩
          obtain ⟨r, hr⟩ : ∃ r, r = m % 4 := ⟨_, rfl⟩
          obtain ⟨s, hs⟩ : ∃ s, s = 8 * j := ⟨_, rfl⟩
          obtain ⟨hr1, hr2, hrw⟩ := rem4 hr (by omega)
          have hmw : IntKind.i64.wrap ((i : Int) + (j : Int)) = (m : Int) := (IntWalk.i64_in _ (by omega)).trans (by omega)
          have hr4 : r < 4 := by omega
          have hr4i : (r : Int) < 4 := by omega
          have hr0i : (0 : Int) ≤ (r : Int) := by omega
          have hsw := mul8 hs hlt2
          have hs0 : (0 : Int) ≤ (s : Int) := by omega
          have hmin : min s 32 = s := by omega
          have hst := tur_step HS.out i j hlt hlt2
          rw [← hm, ← hr, ← hs] at hst
          obtain ⟨v, hv⟩ : ∃ v, v = 255 * 2 ^ s % 4294967296 := ⟨_, rfl⟩
          have hvl : v < 4294967296 := by rw [hv]; exact Nat.mod_lt _ (by decide)
          have hsh : (255 : Int) * 2 ^ s % 4294967296 = (v : Int) := by rw [hv]; simp
          have hsh2 : IntKind.u32.wrap ((255 : Int) * 2 ^ s) = (v : Int) := by rw [IntKind.wrap_u32]; exact hsh
          obtain ⟨W0, hW0⟩ : ∃ W0, W0 = col (cut (tur S) (4 * i + j)) i := ⟨_, rfl⟩
          obtain ⟨T0, hT0⟩ : ∃ T0, T0 = col S r := ⟨_, rfl⟩
          have hW0l : W0 < 4294967296 := by rw [hW0]; exact col_lt (cut_lt (tur_lt HS.out) _) i
          have hT0l : T0 < 4294967296 := by rw [hT0]; exact col_lt HS.out r
          rw [← hW0, ← hv, ← hT0] at hst
          have hand := u32_and_nat T0 v hT0l hvl
          obtain ⟨u, hu⟩ : ∃ u, u = T0 &&& v := ⟨_, rfl⟩
          rw [← hu] at hand hst
          have hul : u < 4294967296 := by rw [hu]; exact Nat.lt_of_le_of_lt Nat.and_le_left hT0l
          have hor := u32_or_nat W0 u hW0l hul
          have hct : wr.cell? ⟨w.heap.size + 1 + 1, i, none⟩ = some (.int .u32 (W0 : Int)) := cell_of H2.out i _ (by rw [qF_get _ i hlt, hW0])
          have hcs : wr.cell? ⟨w.heap.size, r, none⟩ = some (.int .u32 (T0 : Int)) := cell_of H0.out r _ (by rw [qF_get _ r hr4, hT0])
          have hft : wr.frozen? ⟨w.heap.size + 1 + 1, i, none⟩ = false := frozen_of_row _ _ _ _ _ H2.out
          have hwi : IntKind.i64.wrap ((j : Int) + 1) = ((j + 1 : Nat) : Int) := (IntWalk.i64_in _ (by omega)).trans (by omega)
          have HW : Hid ((wr.setCell ⟨w.heap.size + 1 + 1, i, none⟩ (.int .u32 ((W0 ||| u : Nat) : Int))).heap[w.heap.size + 1 + 1]? = some (.cells (qF (col (cut (tur S) (4 * i + (j + 1))))) SQT (0, 0))) := hid ((block_set H2.out i _).trans (by
            rw [qF_set _ _ _ hlt]
            congr 2
            refine qF_congr fun k _ => ?_
            by_cases h : k = i
            · subst h; rw [if_pos rfl, hst]; rfl
            · rw [if_neg h]; exact (cut_other _ _ _ (by omega)).symm))
          clear hst hv hW0 hW0l hvl hT0 hT0l hu hul hm hr hs hr4
          go_wp2
          refine wp_region_still_tail 14 (by kernel_rfl) (by kernel_rfl) ?_
          simp only [List.take_succ_cons, List.take_zero, List.drop_succ_cons, List.drop_zero]
          repeat still_step
          refine wpStill_nil ?_
          change wpList _ _ _ _ _ wr.drew
          go_wp2
          have hj := HJ.out
          go_roundg (4 - j - 1)
          case measure => omega
          case rel => exact ⟨j + 1, by omega, rfl, (heap_setCell_other _ _ _ _ (by simp <;> omega)).trans H0.out, (heap_setCell_other _ _ _ _ (by simp)).trans H1.out, HW.out, (HB.out.setCell (by simp <;> omega) _).drew⟩
        · have hje : j = 4 := by omega
          have H2' := hid H2.out
          rw [hje] at H2'
          have hxj : ¬ (j : Int) < 4 := by omega
          have hwi : IntKind.i64.wrap ((i : Int) + 1) = ((i + 1 : Nat) : Int) := (IntWalk.i64_in _ (by omega)).trans (by omega)
          clear hje H2
          go_wp2
          have hi := HI.out
          go_roundg (4 - i - 1)
          case measure => omega
          case rel => exact ⟨i + 1, by omega, rfl, H0.out, H1.out, H2'.out, HB.out⟩
    · have hie : i = 4 := by omega
      have H2' : Hid (wo.heap[w.heap.size + 1 + 1]? = some (.cells (qF (col (tur S))) SQT (0, 0))) := hid (H2.out.trans (by
        have e : qF (col (cut (tur S) (4 * i))) = qF (col (tur S)) := qF_congr fun j hj => cut_all _ _ j (by omega) hj
        rw [e]))
      have hxi : ¬ (i : Int) < 4 := by omega
      have HI2 : Hid ((Tryz.prog.info? 95).map (·.size) = some (qF (col (tur S))).size) := hid (info4Q.trans (congrArg some (qF_size _).symm))
      have HZ : Hid ((qF fun _ => 0).size = (qF (col (tur S))).size) := hid rfl
      have HO : Hid ((qF (col (tur S))).all (·.oneCell') = true) := hid (qF_one _)
      clear hie H2
      go_wp2_with (first
        | (with_reducible refine wpList_load_row rfl SQT (.tmp 3) rfl (w.heap.size + 1 + 1) rfl SQT (qF (col (tur S))) (0, 0) _ H2'.out undQ rfl HI2.out ?_)
        | (with_reducible refine wpList_store_row rfl SQT (.tmp 2) _ rfl (w.heap.size + 1) (qF (col (tur S))) rfl rfl SQT (qF fun _ => 0) H1.out HI2.out HZ.out HO.out ?_))
      refine bodyPost_ret (v := .agg (qF (col (tur S)))) (results_cell_row rfl _ _ (w.heap.size + 1) SQT (qF (col (tur S))) (0, 0) _ rfl (setRow_heap _ _ _ _ _ _ H1.out) undQ rfl HI2.out) rfl ⟨rfl, ?_⟩
      exact belowRow HB.out (by omega) _
set_option maxRecDepth 100000 in
set_option maxHeartbeats 1000000 in
theorem sqboxed_any (S : Nat → Nat) (w : World) (hS : ∀ i, S i < 256) :
    Calls Tryz.prog 108 #[.agg (qF (col S))] w fun e w' => e = .returned (.agg (qF (col (boxS S)))) ∧ Below w.heap.size w w' := by
  have HS := hid hS
  clear hS
  go_enter Tryz.func108, Tryz.ntmps108
  go_wp2
  rw [← qF_zero]
  have h0 : ((w.alloc (.cells (qF (col S)) SQT)).alloc (.cells (qF fun _ => 0) SQT)).heap[w.heap.size]? = some (.cells (qF fun k => if k < 2 * 0 then col (boxS S) k else col S k) SQT (0, 0)) := blkA (blkN rfl _ _) _
  have h1 : ((w.alloc (.cells (qF (col S)) SQT)).alloc (.cells (qF fun _ => 0) SQT)).heap[w.heap.size + 1]? = some (.cells (qF fun _ => 0) SQT (0, 0)) := blkN (by simp) _ _
  have hb : Below w.heap.size w ((w.alloc (.cells (qF (col S)) SQT)).alloc (.cells (qF fun _ => 0) SQT)) :=
    ((Below.refl _ _).alloc (Nat.le_refl _) _).alloc (by simp) _
  have H0 := hid h0; have H1 := hid h1; have HB := hid hb
  clear h0 h1 hb
  generalize (w.alloc (.cells (qF (col S)) SQT)).alloc (.cells (qF fun _ => 0) SQT) = w0 at *
  go_loopg [3] 2 (fun r c wr => ∃ i : Nat, i + r = 2 ∧ c = .int .i64 ((2 * i : Nat) : Int) ∧ wr.heap[w.heap.size]? = some (.cells (qF fun k => if k < 2 * i then col (boxS S) k else col S k) SQT (0, 0)) ∧ wr.heap[w.heap.size + 1]? = some (.cells (qF fun _ => 0) SQT (0, 0)) ∧ Below w.heap.size w wr)
  case atStart => exact ⟨0, rfl, rfl, H0.out, H1.out, HB.out⟩
  case round =>
    clear H0 H1 HB
    obtain ⟨i, hi, rfl, h0, h1, hb⟩ := hrel
    have H0 := hid h0; have H1 := hid h1; have HB := hid hb; have HI := hid hi
    obtain ⟨p, hp⟩ : ∃ p, p = 2 * i := ⟨_, rfl⟩
    rw [← hp] at H0 ⊢
    have hi4 : p ≤ 4 := by omega
    have HP := hid hp
    by_cases hlt : i < 2
    · have hxp : (p : Int) < 4 := by omega
      have hp0 : (0 : Int) ≤ (p : Int) := by omega
      have hp1 : (0 : Int) ≤ ((p + 1 : Nat) : Int) := by omega
      have hp2 : ((p + 1 : Nat) : Int) < 4 := by omega
      obtain ⟨q, hq⟩ : ∃ q, q = p + 1 := ⟨_, rfl⟩
      rw [← hq] at hp1 hp2
      have hpw : IntKind.i64.wrap ((p : Int) + 1) = (q : Int) := (IntWalk.i64_in _ (by omega)).trans (by omega)
      obtain ⟨a, ha⟩ : ∃ a, a = col S p := ⟨_, rfl⟩
      obtain ⟨b, hb2⟩ : ∃ b, b = col S q := ⟨_, rfl⟩
      have hal : a < 4294967296 := by rw [ha]; exact col_lt HS.out p
      have hbl : b < 4294967296 := by rw [hb2]; exact col_lt HS.out q
      have hca : wr.cell? ⟨w.heap.size, p, none⟩ = some (.int .u32 (a : Int)) := cell_of H0.out p _ (by rw [qF_get _ p (by omega), if_neg (by omega), ha])
      have hcb : wr.cell? ⟨w.heap.size, q, none⟩ = some (.int .u32 (b : Int)) := cell_of H0.out q _ (by rw [qF_get _ q (by omega), if_neg (by omega), hb2])
      have hfa : wr.frozen? ⟨w.heap.size, p, none⟩ = false := frozen_of_row _ _ _ _ _ H0.out
      have hfb : wr.frozen? ⟨w.heap.size, q, none⟩ = false := frozen_of_row _ _ _ _ _ H0.out
      have hbt := box_two HS.out p
      rw [← hq, ← ha, ← hb2] at hbt
      obtain ⟨b2, hbb⟩ : ∃ x, x = b * 4294967296 % 18446744073709551616 := ⟨_, rfl⟩
      rw [← hbb] at hbt
      have hb2l : b2 < 18446744073709551616 := by rw [hbb]; exact Nat.mod_lt _ (by decide)
      have haw : IntKind.u64.wrap (a : Int) = (a : Int) := by rw [wrapN, Nat.mod_eq_of_lt (by omega)]
      have hbw : IntKind.u64.wrap (b : Int) = (b : Int) := by rw [wrapN, Nat.mod_eq_of_lt (by omega)]
      have hsh : IntKind.u64.wrap ((b : Int) * 4294967296) = (b2 : Int) := by rw [show (4294967296 : Int) = ((4294967296 : Nat) : Int) from rfl, wrapM, hbb]
      have hor := u64_or_nat a b2 (by omega) hb2l
      obtain ⟨x, hx⟩ : ∃ x, x = a ||| b2 := ⟨_, rfl⟩
      rw [← hx] at hor hbt
      have hxl : x < 18446744073709551616 := by rw [hx]; exact Nat.or_lt_two_pow (n := 64) (by omega) hb2l
      have HC : Hid (∀ (W : World) (k : Nat), Calls Tryz.prog 123 #[.int .u64 (x : Int)] (W.drewN k) fun e w' => e = .returned (.int .u64 ((boxW x : Nat) : Int)) ∧ ∃ m, w' = W.drewN m) :=
        hid fun W k => (boxed_any x _ hxl).mono fun _ _ h => ⟨h.1, by obtain ⟨j, hj⟩ := h.2; exact ⟨k + j, by rw [hj, World.drewN_drewN]⟩⟩
      obtain ⟨t, ht⟩ : ∃ t, t = boxW x := ⟨_, rfl⟩
      rw [← ht] at HC hbt
      obtain ⟨t0, ht0⟩ : ∃ t0, t0 = t % 4294967296 := ⟨_, rfl⟩
      obtain ⟨t1, ht1⟩ : ∃ t1, t1 = t / 4294967296 := ⟨_, rfl⟩
      rw [← ht0, ← ht1] at hbt
      have hc1 : (t : Int) % 4294967296 = (t0 : Int) := by omega
      have hc1w : IntKind.u32.wrap (t : Int) = (t0 : Int) := by rw [wrap32, ht0]
      have hd1 : (t : Int) / 4294967296 = (t1 : Int) := by omega
      have ht1l : t1 < 4294967296 := by rw [hbt.2]; exact col_lt (boxS_lt HS.out) q
      have hc2 : (t1 : Int) % 4294967296 = (t1 : Int) := by omega
      have hc2w : IntKind.u32.wrap (t1 : Int) = (t1 : Int) := by rw [wrap32, Nat.mod_eq_of_lt ht1l]
      have hwi : IntKind.i64.wrap ((p : Int) + 2) = ((2 * (i + 1) : Nat) : Int) := (IntWalk.i64_in _ (by omega)).trans (by omega)
      have HQ := hid hq; have HBT := hid hbt; have HBV := hid hb2.symm
      clear h0 h1 hb hi hp hq ha hb2 hal hbl hbb hb2l hx hxl ht ht0 ht1 ht1l hbt
      go_wp2
      go_quiet ((go_at_call 123; with_reducible exact HC.out _ _))
      have hpq : p ≠ q := by have := HQ.out; omega
      have hq4 : q < 4 := by omega
      have hrow1 : ((wr.drewN nq).setCell ⟨w.heap.size, p, none⟩ (.int .u32 (t0 : Int))).heap[w.heap.size]? = some (.cells (qF fun k => if k = p then t0 else if k < p then col (boxS S) k else col S k) SQT (0, 0)) := (block_set (w := wr.drewN nq) H0.out p _).trans (by rw [qF_set _ _ _ (by omega)])
      have hcb2 : ((wr.drewN nq).setCell ⟨w.heap.size, p, none⟩ (.int .u32 (t0 : Int))).cell? ⟨w.heap.size, q, none⟩ = some (.int .u32 (b : Int)) := cell_of hrow1 q _ (by rw [qF_get _ q hq4, if_neg (Ne.symm hpq), if_neg (by have := HQ.out; omega), HBV.out])
      have hfb2 : ((wr.drewN nq).setCell ⟨w.heap.size, p, none⟩ (.int .u32 (t0 : Int))).frozen? ⟨w.heap.size, q, none⟩ = false := frozen_of_row _ _ _ _ _ hrow1
      have HW : Hid ((((wr.drewN nq).setCell ⟨w.heap.size, p, none⟩ (.int .u32 (t0 : Int))).setCell ⟨w.heap.size, q, none⟩ (.int .u32 (t1 : Int))).heap[w.heap.size]? = some (.cells (qF fun k => if k < 2 * (i + 1) then col (boxS S) k else col S k) SQT (0, 0))) := hid ((block_set hrow1 q _).trans (by
        rw [qF_set _ _ _ hq4]
        have e : qF (fun k => if k = q then t1 else if k = p then t0 else if k < p then col (boxS S) k else col S k) = qF (fun k => if k < 2 * (i + 1) then col (boxS S) k else col S k) := qF_congr fun k _ => by
          have h1 := HQ.out
          have h2 := HP.out
          by_cases hk : k = q
          · rw [if_pos hk, if_pos (by omega), HBT.out.2, hk]
          · rw [if_neg hk]
            by_cases hk2 : k = p
            · rw [if_pos hk2, if_pos (by omega), HBT.out.1, hk2]
            · rw [if_neg hk2]
              by_cases hk3 : k < p
              · rw [if_pos hk3, if_pos (by omega)]
              · rw [if_neg hk3, if_neg (by omega)]
        rw [e]))
      have HB2 : Hid (Below w.heap.size w (((wr.drewN nq).setCell ⟨w.heap.size, p, none⟩ (.int .u32 (t0 : Int))).setCell ⟨w.heap.size, q, none⟩ (.int .u32 (t1 : Int)))) := hid (((show Below w.heap.size w (wr.drewN nq) from ⟨HB.out.os, HB.out.tape, HB.out.output, HB.out.size, HB.out.block⟩).setCell (by simp) _).setCell (by simp) _)
      have H12 : Hid ((((wr.drewN nq).setCell ⟨w.heap.size, p, none⟩ (.int .u32 (t0 : Int))).setCell ⟨w.heap.size, q, none⟩ (.int .u32 (t1 : Int))).heap[w.heap.size + 1]? = some (.cells (qF fun _ => 0) SQT (0, 0))) := hid ((heap_setCell_other _ _ _ _ (by simp)).trans ((heap_setCell_other _ _ _ _ (by simp)).trans H1.out))
      clear hrow1 hpq hq4
      go_wp2
      have hi := HI.out
      go_roundg (2 - i - 1)
      case measure => omega
      case rel => exact ⟨i + 1, by omega, by go_num, HW.out, H12.out, HB2.out⟩
    · have hie : p = 4 := by omega
      have H0' : Hid (wr.heap[w.heap.size]? = some (.cells (qF (col (boxS S))) SQT (0, 0))) := hid (H0.out.trans (by
        have e : qF (fun k => if k < p then col (boxS S) k else col S k) = qF (col (boxS S)) := qF_congr fun j hj => if_pos (by omega)
        rw [e]))
      have hxi : ¬ (p : Int) < 4 := by omega
      have HI2 : Hid ((Tryz.prog.info? 95).map (·.size) = some (qF (col (boxS S))).size) := hid (info4Q.trans (congrArg some (qF_size _).symm))
      have HZ : Hid ((qF fun _ => 0).size = (qF (col (boxS S))).size) := hid rfl
      have HO : Hid ((qF (col (boxS S))).all (·.oneCell') = true) := hid (qF_one _)
      clear hie H0 h0 h1 hb hi hp
      go_wp2_with (first
        | (with_reducible refine wpList_load_row rfl SQT (.tmp 1) rfl w.heap.size rfl SQT (qF (col (boxS S))) (0, 0) _ H0'.out undQ rfl HI2.out ?_)
        | (with_reducible refine wpList_store_row rfl SQT (.tmp 2) _ rfl (w.heap.size + 1) (qF (col (boxS S))) rfl rfl SQT (qF fun _ => 0) H1.out HI2.out HZ.out HO.out ?_))
      refine bodyPost_ret (v := .agg (qF (col (boxS S)))) (results_cell_row rfl _ _ (w.heap.size + 1) SQT (qF (col (boxS S))) (0, 0) _ rfl (setRow_heap _ _ _ _ _ _ H1.out) undQ rfl HI2.out) rfl ⟨rfl, ?_⟩
      exact belowRow HB.out (by omega) _
end Go.Proofs.YtpkmidaflnbobaaGreatDoor
end
