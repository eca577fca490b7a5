/-
  Texts of this claim in one file: CvP, CvQ, CvX.
-/
import Derived.Test.YtgehfbcagaaggaaGreatDoorPk3
import Derived.Test.YtgehfbcagaaggaaGreatDoorPk35
import Derived.Test.YtgehfbcagaaggaaGreatDoorPk45
section
namespace Go.Proofs.YtgehfbcagaaggaaGreatDoor
section
set_option linter.unusedVariables false
set_option linter.unusedSimpArgs false
set_option exponentiation.threshold 600
/-- Three numbers tell a point. -/
structure Pj where
  X : FF
  Y : FF
  Z : FF
deriving DecidableEq
def Pj.is (J : Pj) (P : Pt) : Prop := J.X = P.x * J.Z ∧ J.Y = P.y * J.Z ∧ J.Z ≠ 0
def Pj.zero : Pj := ⟨0, 1, 1⟩
/-- The sum, without a quotient. -/
def Pj.add (J K : Pj) : Pj :=
  let A := J.Z * K.Z
  let B := A * A
  let C := J.X * K.X
  let D := J.Y * K.Y
  let E := dd * C * D
  let F := B - E
  let G := B + E
  ⟨A * F * (J.X * K.Y + K.X * J.Y), A * G * (D + C), F * G⟩
theorem Pj.zero_is : Pj.zero.is Pt.zero := by
  exact ⟨by decide +kernel, by decide +kernel, by decide +kernel⟩
theorem pj_F (d a b x y Z Z' : FF) : Z * Z' * (Z * Z') - d * (a * Z * (x * Z')) * (b * Z * (y * Z')) = (Z * Z') * (Z * Z') * (1 - d * a * x * b * y) := by grobner
theorem pj_G (d a b x y Z Z' : FF) : Z * Z' * (Z * Z') + d * (a * Z * (x * Z')) * (b * Z * (y * Z')) = (Z * Z') * (Z * Z') * (1 + d * a * x * b * y) := by grobner
theorem Pj.add_is {J K : Pj} {P R : Pt} (hP : P.on) (hR : R.on) (hJ : J.is P) (hK : K.is R) : (J.add K).is (P.add R) := by
  obtain ⟨a1, a2, a3⟩ := hJ
  obtain ⟨b1, b2, b3⟩ := hK
  obtain ⟨c1, c2⟩ := complete hP hR
  obtain ⟨s1, s2⟩ := Pt.add_is hP hR
  have hA := FF_mul_nz a3 b3
  obtain ⟨X, Y, Z⟩ := J
  obtain ⟨X', Y', Z'⟩ := K
  dsimp only at *
  subst a1 a2 b1 b2
  unfold Pj.add Pj.is
  dsimp only
  rw [pj_F, pj_G]
  refine ⟨?_, ?_, FF_mul_nz (FF_mul_nz (FF_mul_nz hA hA) c2) (FF_mul_nz (FF_mul_nz hA hA) c1)⟩
  · generalize (P.add R).x = x3 at *
    generalize 1 + dd * P.x * R.x * P.y * R.y = p at *
    generalize 1 - dd * P.x * R.x * P.y * R.y = m at *
    clear s2 c1 c2 hP hR hA
    grobner
  · generalize (P.add R).y = y3 at *
    generalize 1 + dd * P.x * R.x * P.y * R.y = p at *
    generalize 1 - dd * P.x * R.x * P.y * R.y = m at *
    clear s1 c1 c2 hP hR hA
    grobner
/-- As often as the bits of n say, from bit j - 1 down. -/
def Pj.times (J : Pj) (n : Nat) : Nat → Pj → Pj
  | 0, acc => acc
  | j + 1, acc => Pj.times J n j (if n / 2 ^ j % 2 == 1 then (acc.add acc).add J else acc.add acc)
theorem Pj.times_is {J : Pj} {P : Pt} (hP : P.on) (hJ : J.is P) (n : Nat) : ∀ (j : Nat) (acc : Pj) (q : Nat), q = n / 2 ^ j → acc.is (Pt.times q P) → (Pj.times J n j acc).is (Pt.times n P)
  | 0, acc, q, hq, h => by
    rw [Nat.pow_zero, Nat.div_one] at hq
    rw [← hq]
    exact h
  | j + 1, acc, q, hq, h => by
    have hon := Pt.times_on hP q
    have h2 := Pj.add_is hon hon h h
    rw [times_dbl hP] at h2
    have hm := Nat.div_add_mod (n / 2 ^ j) 2
    have hd : n / 2 ^ j / 2 = q := by rw [hq, Nat.div_div_eq_div_mul, Nat.pow_succ]
    rw [hd] at hm
    show (Pj.times J n j (if n / 2 ^ j % 2 == 1 then (acc.add acc).add J else acc.add acc)).is _
    rcases Nat.mod_two_eq_zero_or_one (n / 2 ^ j) with h0 | h1
    · refine Pj.times_is hP hJ n j _ (2 * q) (by omega) ?_
      rw [h0]
      exact h2
    · refine Pj.times_is hP hJ n j _ (2 * q + 1) (by omega) ?_
      rw [h1]
      exact Pj.add_is (Pt.times_on hP (2 * q)) hP h2 hJ
/-- The order. -/
def LL : Nat := 7237005577332262213973186563042994240857116359379907606001950938285454250989
def Gj : Pj := ⟨15112221349535400772501151409588531511454012693041857206046113283949847762202, 46316835694926478169428394003475163141307993866256225615783033603165251855960, 1⟩
theorem Gj_is : Gj.is Gb := by
  exact ⟨by decide +kernel, by decide +kernel, by decide +kernel⟩
theorem order_j : (Pj.times Gj 7237005577332262213973186563042994240857116359379907606001950938285454250989 253 Pj.zero).X = 0 ∧ (Pj.times Gj 7237005577332262213973186563042994240857116359379907606001950938285454250989 253 Pj.zero).Y = (Pj.times Gj 7237005577332262213973186563042994240857116359379907606001950938285454250989 253 Pj.zero).Z := by
  decide +kernel
/-- The base L times is nothing. -/
theorem order_Gb : Pt.times LL Gb = Pt.zero := by
  have h := Pj.times_is Gb_on Gj_is LL 253 Pj.zero 0 (by decide +kernel) Pj.zero_is
  have ho := order_j
  unfold LL at *
  obtain ⟨h1, h2, h3⟩ := h
  rw [ho.1] at h1
  rw [ho.2] at h2
  refine Pt.ext' ?_ ?_
  · show _ = (0 : FF)
    refine FF_cancel (b := (Pt.times 7237005577332262213973186563042994240857116359379907606001950938285454250989 Gb).x) (c := 0) h3 ?_
    generalize (Pt.times 7237005577332262213973186563042994240857116359379907606001950938285454250989 Gb).x = a at *
    generalize (Pj.times Gj 7237005577332262213973186563042994240857116359379907606001950938285454250989 253 Pj.zero).Z = z at *
    clear h2 h3 ho
    grobner
  · show _ = (1 : FF)
    refine FF_cancel (b := (Pt.times 7237005577332262213973186563042994240857116359379907606001950938285454250989 Gb).y) (c := 1) h3 ?_
    generalize (Pt.times 7237005577332262213973186563042994240857116359379907606001950938285454250989 Gb).y = a at *
    generalize (Pj.times Gj 7237005577332262213973186563042994240857116359379907606001950938285454250989 253 Pj.zero).Z = z at *
    clear h1 h3 ho
    grobner
/-- Only what is left of a count by the order counts. -/
theorem times_mod (n : Nat) : Pt.times (n % LL) Gb = Pt.times n Gb := by
  have e : Pt.times n Gb = Pt.times (LL * (n / LL) + n % LL) Gb := by rw [Nat.div_add_mod]
  rw [e, Pt.times_add Gb_on, Nat.mul_comm LL, Pt.times_times Gb_on, order_Gb, times_zero_pt, Pt.zero_add (Pt.times_on Gb_on _)]
end
section
set_option linter.unusedVariables false
set_option linter.unusedSimpArgs false
set_option exponentiation.threshold 600
/-- A point's bytes. -/
def ptBytes (x y : FF) : List UInt8 := leB 32 (y.val + x.val % 2 * 57896044618658097711785492504343953926634992332820282019728792003956564819968)
theorem leB_add (k n m : Nat) : leB k (n + 256 ^ k * m) = leB k n := by
  induction k generalizing n with
  | zero => rfl
  | succ k ih =>
    have e : n + 256 ^ (k + 1) * m = n + 256 * (256 ^ k * m) := by rw [Nat.pow_succ, Nat.mul_comm (256 ^ k) 256, Nat.mul_assoc]
    have h1 : (n + 256 * (256 ^ k * m)) / 256 = n / 256 + 256 ^ k * m := by omega
    have h2 : UInt8.ofNat (n + 256 * (256 ^ k * m)) = UInt8.ofNat n := by
      apply UInt8.toNat_inj.1
      simp [UInt8.toNat_ofNat']
    rw [leB, leB, e, h1, ih, h2]
theorem leB_high (n : Nat) (h : n < 57896044618658097711785492504343953926634992332820282019728792003956564819968) :
    (leB 32 n).set 31 (UInt8.ofNat (n / 256 ^ 31 + 128)) = leB 32 (n + 57896044618658097711785492504343953926634992332820282019728792003956564819968) ∧ (leB 32 n)[31]? = some (UInt8.ofNat (n / 256 ^ 31)) ∧ n / 256 ^ 31 < 128 := by
  have e : (57896044618658097711785492504343953926634992332820282019728792003956564819968 : Nat) = 256 ^ 31 * 128 := by decide +kernel
  have hd : n / 256 ^ 31 < 128 := by
    rw [Nat.div_lt_iff_lt_mul (by decide +kernel), Nat.mul_comm, ← e]
    exact h
  refine ⟨?_, ?_, hd⟩
  · rw [leB_snoc 31, leB_snoc 31, e, leB_add, Nat.add_mul_div_left _ _ (by decide +kernel), List.set_append, leB_length]
    simp
  · rw [leB_snoc 31, List.getElem?_append_right (by rw [leB_length]; omega), leB_length]
    simp
instance : DecidableEq Pt := fun p q => decidable_of_iff (p.x = q.x ∧ p.y = q.y) ⟨fun h => Pt.ext' h.1 h.2, fun h => by subst h; exact ⟨rfl, rfl⟩⟩
def pB (p : Pt) : List UInt8 := ptBytes p.x p.y
theorem pB_length (p : Pt) : (pB p).length = 32 := leB_length 32 _
theorem FF_255 (y : FF) : y.val < 57896044618658097711785492504343953926634992332820282019728792003956564819968 := by have h := y.isLt; omega
theorem ptBytes_num (x y : FF) : leN (ptBytes x y) = y.val + x.val % 2 * 57896044618658097711785492504343953926634992332820282019728792003956564819968 := by
  unfold ptBytes
  rw [leN_leB]
  refine Nat.mod_eq_of_lt ?_
  have h := FF_255 y
  have hx : x.val % 2 < 2 := Nat.mod_lt _ (by omega)
  have e : (256 : Nat) ^ 32 = 2 * 57896044618658097711785492504343953926634992332820282019728792003956564819968 := by decide +kernel
  rw [e]
  omega
theorem dd_m1 : dd * 1 + 1 ≠ 0 := by decide +kernel
/-- What stands over x's square is not 0. -/
theorem den_nz (p : Pt) (h : p.on) : dd * (p.y * p.y) + 1 ≠ 0 := fun hz => by
  unfold Pt.on On at h
  have h1 : p.y * p.y = 1 := by
    generalize dd = d at *
    grobner
  rw [h1] at hz
  exact dd_m1 hz
theorem on_sq {p q : Pt} (hp : p.on) (hq : q.on) (hy : p.y = q.y) : p.x * p.x = q.x * q.x := by
  have hn := den_nz p hp
  unfold Pt.on On at hp hq
  rw [← hy] at hq
  have h : (p.x * p.x - q.x * q.x) * (dd * (p.y * p.y) + 1) = 0 := by
    generalize dd = d at *
    grobner
  rcases FF_mul h with h | h
  · generalize p.x = a at *
    generalize q.x = b at *
    clear hp hq hn
    grobner
  · exact absurd h hn
theorem two_x {a b : FF} (h : a * a = b * b) : a = b ∨ a = -b := by
  have h2 : (a - b) * (a + b) = 0 := by grobner
  rcases FF_mul h2 with h | h
  · left; grobner
  · right; grobner
theorem FF_negv (a : FF) (h : a ≠ 0) : (-a).val = 57896044618658097711785492504343953926634992332820282019728792003956564819949 - a.val := by
  have e : (-a).val = (57896044618658097711785492504343953926634992332820282019728792003956564819949 - a.val) % 57896044618658097711785492504343953926634992332820282019728792003956564819949 := rfl
  rw [e]
  have h0 : a.val ≠ 0 := fun e => h (Fin.ext e)
  exact Nat.mod_eq_of_lt (by omega)
theorem pB_inj {p q : Pt} (hp : p.on) (hq : q.on) (h : pB p = pB q) : p = q := by
  have hn := congrArg leN h
  unfold pB at hn
  rw [ptBytes_num, ptBytes_num] at hn
  have h1 := FF_255 p.y
  have h2 := FF_255 q.y
  have hy : p.y = q.y := Fin.ext (by omega)
  have hx : p.x.val % 2 = q.x.val % 2 := by omega
  refine Pt.ext' ?_ hy
  rcases two_x (on_sq hp hq hy) with h | h
  · exact h
  · by_cases h0 : q.x = 0
    · rw [h, h0]; exact Fin.ext (by decide +kernel)
    · exfalso
      have hv := FF_negv q.x h0
      rw [← h] at hv
      have h3 := q.x.isLt
      omega
open Classical in
/-- The point of bytes, if there is one. -/
noncomputable def ptOf (xs : List UInt8) : Option Pt := if h : ∃ p : Pt, p.on ∧ pB p = xs then some h.choose else none
theorem ptOf_some {xs : List UInt8} {p : Pt} (h : ptOf xs = some p) : p.on ∧ pB p = xs := by
  unfold ptOf at h
  split at h
  · rename_i hx
    simp only [Option.some.injEq] at h
    subst h
    exact hx.choose_spec
  · cases h
theorem ptOf_bytes {p : Pt} (h : p.on) : ptOf (pB p) = some p := by
  have hx : ∃ q : Pt, q.on ∧ pB q = pB p := ⟨p, h, rfl⟩
  unfold ptOf
  rw [dif_pos hx]
  exact congrArg some (pB_inj hx.choose_spec.1 h hx.choose_spec.2)
theorem ptOf_len {xs : List UInt8} (h : xs.length ≠ 32) : ptOf xs = none := by
  unfold ptOf
  rw [dif_neg]
  rintro ⟨p, _, rfl⟩
  exact h (pB_length p)
/-- What bytes tell, or nothing. -/
noncomputable def ptO (xs : List UInt8) : Pt := (ptOf xs).getD Pt.zero
theorem ptO_on (xs : List UInt8) : (ptO xs).on := by
  unfold ptO
  cases h : ptOf xs with
  | none => exact Pt.zero_on
  | some p => exact (ptOf_some h).1
end
end Go.Proofs.YtgehfbcagaaggaaGreatDoor
end
section
namespace Go.Proofs.YtgehfbcagaaggaaGreatDoor
set_option linter.unusedVariables false
set_option linter.unusedSimpArgs false
theorem SF_mod (n : Nat) : Pt.times (n % 7237005577332262213973186563042994240857116359379907606001950938285454250989) Gb = Pt.times n Gb := times_mod n
theorem mul_add_s (s t : SF) : Pt.times (s + t).val Gb = (Pt.times s.val Gb).add (Pt.times t.val Gb) := by
  rw [Fin.val_add, SF_mod]
  exact Pt.times_add Gb_on _ _
theorem mul_mul_s (s t : SF) : Pt.times (s * t).val Gb = Pt.times t.val (Pt.times s.val Gb) := by
  rw [Fin.val_mul, SF_mod, Nat.mul_comm]
  exact Pt.times_times Gb_on _ _
end Go.Proofs.YtgehfbcagaaggaaGreatDoor
end
section
namespace Go.Proofs.YtgehfbcagaaggaaGreatDoor
set_option linter.unusedVariables false
set_option linter.unusedSimpArgs false
/-- Four numbers tell a point. -/
structure Ex4 (X Y Z T : FF) (P : Pt) : Prop where
  nz : Z ≠ 0
  x : X = P.x * Z
  y : Y = P.y * Z
  t : T = P.x * P.y * Z
theorem FF_nz {a b : FF} (ha : a ≠ 0) (hb : b ≠ 0) : a * b ≠ 0 := fun h => by
  rcases FF_mul h with h | h
  · exact ha h
  · exact hb h
theorem two_nz : (2 : FF) ≠ 0 := by decide +kernel
theorem ex_zero : Ex4 0 1 1 0 Pt.zero := ⟨by decide +kernel, by decide +kernel, by decide +kernel, by decide +kernel⟩
theorem ex_at (P : Pt) : Ex4 P.x P.y 1 (P.x * P.y) P := ⟨by decide +kernel, by generalize P.x = x; grobner, by generalize P.y = y; grobner, by generalize P.x = x; generalize P.y = y; grobner⟩
theorem ex_sum {d x1 y1 x2 y2 x3 y3 Z1 Z2 : FF} (hx : x3 * (1 + d * x1 * x2 * y1 * y2) = x1 * y2 + x2 * y1) (hy : y3 * (1 - d * x1 * x2 * y1 * y2) = y1 * y2 + x1 * x2) {E F G H : FF}
    (hE : E = 2 * (Z1 * Z2) * (x1 * y2 + x2 * y1)) (hF : F = 2 * (Z1 * Z2) * (1 - d * x1 * x2 * y1 * y2)) (hG : G = 2 * (Z1 * Z2) * (1 + d * x1 * x2 * y1 * y2)) (hH : H = 2 * (Z1 * Z2) * (y1 * y2 + x1 * x2)) :
    E * F = x3 * (F * G) ∧ G * H = y3 * (F * G) ∧ E * H = x3 * y3 * (F * G) := by
  rw [← hx] at hE
  rw [← hy] at hH
  generalize 1 + d * x1 * x2 * y1 * y2 = n at *
  generalize 1 - d * x1 * x2 * y1 * y2 = m at *
  clear hx hy
  subst hE; subst hF; subst hG; subst hH
  exact ⟨by grobner, by grobner, by grobner⟩
/-- The sum, as it is reckoned from the differences and sums of both. -/
theorem ex_add {X1 Y1 Z1 T1 X2 Y2 Z2 T2 : FF} {P R : Pt} (h1 : Ex4 X1 Y1 Z1 T1 P) (h2 : Ex4 X2 Y2 Z2 T2 R) (hP : P.on) (hR : R.on) {A B C D E F G H : FF}
    (hA : A = (Y1 - X1) * (Y2 - X2)) (hB : B = (Y1 + X1) * (Y2 + X2)) (hC : C = 2 * dd * (T1 * T2)) (hD : D = 2 * (Z1 * Z2)) (hE : E = B - A) (hF : F = D - C) (hG : G = D + C) (hH : H = B + A) :
    Ex4 (E * F) (G * H) (F * G) (E * H) (P.add R) := by
  obtain ⟨hz1, hx1, hy1, ht1⟩ := h1
  obtain ⟨hz2, hx2, hy2, ht2⟩ := h2
  have hc := complete hP hR
  have hs := Pt.add_is hP hR
  have e1 : E = 2 * (Z1 * Z2) * (P.x * R.y + R.x * P.y) := by
    rw [hE, hB, hA, hx1, hy1, hx2, hy2]
    generalize P.x = a; generalize P.y = b; generalize R.x = c; generalize R.y = e
    clear hc hs hE hF hG hH hA hB hC hD hx1 hy1 ht1 hx2 hy2 ht2 hz1 hz2 hP hR
    grobner
  have e4 : H = 2 * (Z1 * Z2) * (P.y * R.y + P.x * R.x) := by
    rw [hH, hB, hA, hx1, hy1, hx2, hy2]
    generalize P.x = a; generalize P.y = b; generalize R.x = c; generalize R.y = e
    clear hc hs hE hF hG hH hA hB hC hD hx1 hy1 ht1 hx2 hy2 ht2 hz1 hz2 hP hR e1
    grobner
  have e2 : F = 2 * (Z1 * Z2) * (1 - dd * P.x * R.x * P.y * R.y) := by
    rw [hF, hD, hC, ht1, ht2]
    generalize dd = d; generalize P.x = a; generalize P.y = b; generalize R.x = c; generalize R.y = e
    clear hc hs hE hF hG hH hA hB hC hD hx1 hy1 ht1 hx2 hy2 ht2 hz1 hz2 hP hR e1 e4
    grobner
  have e3 : G = 2 * (Z1 * Z2) * (1 + dd * P.x * R.x * P.y * R.y) := by
    rw [hG, hD, hC, ht1, ht2]
    generalize dd = d; generalize P.x = a; generalize P.y = b; generalize R.x = c; generalize R.y = e
    clear hc hs hE hF hG hH hA hB hC hD hx1 hy1 ht1 hx2 hy2 ht2 hz1 hz2 hP hR e1 e2 e4
    grobner
  have hzz := FF_nz two_nz (FF_nz hz1 hz2)
  have hF0 : F ≠ 0 := by rw [e2]; exact FF_nz hzz hc.2
  have hG0 : G ≠ 0 := by rw [e3]; exact FF_nz hzz hc.1
  obtain ⟨r1, r2, r3⟩ := ex_sum hs.1 hs.2 e1 e2 e3 e4
  exact ⟨FF_nz hF0 hG0, r1, r2, r3⟩
/-- The square of the x that goes with y. -/
def sqX (y : FF) : FF := (y * y - 1) * FI (dd * (y * y) + 1)
/-- The square of a point's x. -/
theorem sqX_pt {p : Pt} (h : p.on) : sqX p.y = p.x * p.x := by
  have hn := den_nz p h
  have hi := FF_inv hn
  unfold sqX
  unfold Pt.on On at h
  generalize FI (dd * (p.y * p.y) + 1) = i at *
  generalize dd = d at *
  generalize p.x = x at *
  generalize p.y = y at *
  clear hn
  grobner
/-- A square's x makes a point. -/
theorem pt_sqX {x y : FF} (h : x * x = sqX y) (hn : dd * (y * y) + 1 ≠ 0) : (⟨x, y⟩ : Pt).on := by
  have hi := FF_inv hn
  unfold sqX at h
  show On dd x y
  unfold On
  generalize FI (dd * (y * y) + 1) = i at *
  generalize dd = d at *
  clear hn
  grobner
theorem m1_sq : (19681161376707505956807079304988542015446066515923890162744021073123829784752 : FF) * 19681161376707505956807079304988542015446066515923890162744021073123829784752 = -1 := by decide +kernel
/-- What stands under the square is never 0. -/
theorem den_all (y : FF) : dd * (y * y) + 1 ≠ 0 := fun hz => by
  have h1 : (19681161376707505956807079304988542015446066515923890162744021073123829784752 : FF) * 19681161376707505956807079304988542015446066515923890162744021073123829784752 = dd * (y * y) := by
    rw [m1_sq]
    generalize dd * (y * y) = a at *
    grobner
  have h2 := dd_no h1
  rw [h2] at hz
  revert hz
  decide +kernel
theorem ex_and {X Y Z T l m p A B C D q1 q2 q3 q4 : FF} {P R : Pt} (h : Ex4 X Y Z T P) (hP : P.on) (hR : R.on) (hl : l = R.y - R.x) (hm : m = R.y + R.x) (hp : p = (dd + dd) * R.x * R.y)
    (hA : A = (Y - X) * l) (hB : B = (Y + X) * m) (hD : D = Z + Z) (hC : C = T * p) (h1 : q1 = (B - A) * (D - C)) (h2 : q2 = (B + A) * (D + C)) (h3 : q3 = (D + C) * (D - C)) (h4 : q4 = (B - A) * (B + A)) : Ex4 q1 q2 q3 q4 (P.add R) := by
  have e := ex_add h (ex_at R) hP hR (A := A) (B := B) (C := C) (D := D) (by rw [hA, hl]) (by rw [hB, hm])
    (by rw [hC, hp]; generalize dd = d; generalize R.x = a; generalize R.y = b; grobner) (by rw [hD]; grobner) rfl rfl rfl rfl
  have e2 : (D + C) * (B + A) = q2 := by rw [h2]; grobner
  have e3 : (D - C) * (D + C) = q3 := by rw [h3]; grobner
  rw [← h1, e2, e3, ← h4] at e
  exact e
theorem twice_num {x y Z n m u v F : FF} (hu : u * n = x * y + x * y) (hv : v * m = y * y + x * x) (hF : F = Z * Z * n * (Z * Z * m)) :
    (x * y + x * y) * (Z * Z) * (Z * Z * m) = u * F ∧ (y * y + x * x) * (Z * Z) * (Z * Z * n) = v * F ∧ (x * y + x * y) * (Z * Z) * ((y * y + x * x) * (Z * Z)) = u * v * F := by
  rw [← hu, ← hv]
  subst hF
  clear hu hv
  exact ⟨by grobner, by grobner, by grobner⟩
theorem ex_twice {X Y Z T A B C S D q1 q2 q3 q4 : FF} {P : Pt} (h : Ex4 X Y Z T P) (hP : P.on) (hA : A = X * X) (hB : B = Y * Y) (hC : C = Z * Z) (hS : S = B + A) (hD : D = B - A)
    (h1 : q1 = ((X + Y) * (X + Y) - S) * (C + C - D)) (h2 : q2 = S * D) (h3 : q3 = D * (C + C - D)) (h4 : q4 = ((X + Y) * (X + Y) - S) * S) : Ex4 q1 q2 q3 q4 (P.add P) := by
  obtain ⟨hz, hx, hy, ht⟩ := h
  have hc := complete hP hP
  have hs := Pt.add_is hP hP
  unfold Pt.on On at hP
  have eD : D = Z * Z * (1 + dd * P.x * P.x * P.y * P.y) := by
    rw [hD, hB, hA, hx, hy, hP]
    generalize P.x = x; generalize P.y = y
    clear hc hs hP h1 h2 h3 h4 hA hB hC hS hD hx hy ht hz
    grobner
  have eF : C + C - D = Z * Z * (1 - dd * P.x * P.x * P.y * P.y) := by
    rw [eD, hC]
    generalize dd * P.x * P.x * P.y * P.y = k
    clear hc hs hP h1 h2 h3 h4 hA hB hC hS hD hx hy ht hz eD
    grobner
  have eE : (X + Y) * (X + Y) - S = (P.x * P.y + P.x * P.y) * (Z * Z) := by
    rw [hS, hB, hA, hx, hy]
    generalize P.x = x; generalize P.y = y
    clear hc hs hP h1 h2 h3 h4 hA hB hC hS hD hx hy ht hz eD eF
    grobner
  have eS : S = (P.y * P.y + P.x * P.x) * (Z * Z) := by
    rw [hS, hB, hA, hx, hy]
    generalize P.x = x; generalize P.y = y
    clear hc hs hP h1 h2 h3 h4 hA hB hC hS hD hx hy ht hz eD eF eE
    grobner
  rw [eE, eF] at h1
  rw [eS, eD] at h2
  rw [eF, eD] at h3
  rw [eE, eS] at h4
  have hzz := FF_nz hz hz
  obtain ⟨r1, r2, r3⟩ := twice_num hs.1 hs.2 h3
  refine ⟨?_, by rw [h1, r1], by rw [h2, r2], by rw [h4, r3]⟩
  rw [h3]
  exact FF_nz (FF_nz hzz hc.1) (FF_nz hzz hc.2)
theorem ex_point {X Y Z T : FF} {P : Pt} (h : Ex4 X Y Z T P) : X * FI Z = P.x ∧ Y * FI Z = P.y := by
  have hi := FF_inv h.nz
  rw [h.x, h.y]
  generalize FI Z = i at *
  generalize P.x = x; generalize P.y = y
  exact ⟨by grobner, by grobner⟩
end Go.Proofs.YtgehfbcagaaggaaGreatDoor
end
