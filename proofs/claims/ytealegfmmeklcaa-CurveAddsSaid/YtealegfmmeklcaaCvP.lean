/-
  Layers 8 to 10, plain: sums of points told by three numbers, and the base as often as the order is nothing.
  Points as bytes, plain.
-/
import Derived.Test.YtealegfmmeklcaaLad
import Derived.Test.YtealegfmmeklcaaLeN
namespace Go.Proofs.Ytealegfmmeklcaa
section
set_option linter.unusedVariables false
set_option linter.unusedSimpArgs false
set_option exponentiation.threshold 600

/-- Three numbers tell a point. -/
structure Pj where
  X : FF
  Y : FF
  Z : FF
deriving DecidableEq
def Pj.is (J : Pj) (P : Pt) : Prop := J.X = P.x * J.Z ∧ J.Y = P.y * J.Z ∧ J.Z ≠ 0
def Pj.zero : Pj := ⟨0, 1, 1⟩
/-- The sum, without a quotient. -/
def Pj.add (J K : Pj) : Pj :=
  let A := J.Z * K.Z
  let B := A * A
  let C := J.X * K.X
  let D := J.Y * K.Y
  let E := dd * C * D
  let F := B - E
  let G := B + E
  ⟨A * F * (J.X * K.Y + K.X * J.Y), A * G * (D + C), F * G⟩
theorem Pj.zero_is : Pj.zero.is Pt.zero := by
  exact ⟨by decide +kernel, by decide +kernel, by decide +kernel⟩
theorem pj_F (d a b x y Z Z' : FF) : Z * Z' * (Z * Z') - d * (a * Z * (x * Z')) * (b * Z * (y * Z')) = (Z * Z') * (Z * Z') * (1 - d * a * x * b * y) := by grobner
theorem pj_G (d a b x y Z Z' : FF) : Z * Z' * (Z * Z') + d * (a * Z * (x * Z')) * (b * Z * (y * Z')) = (Z * Z') * (Z * Z') * (1 + d * a * x * b * y) := by grobner
theorem Pj.add_is {J K : Pj} {P R : Pt} (hP : P.on) (hR : R.on) (hJ : J.is P) (hK : K.is R) : (J.add K).is (P.add R) := by
  obtain ⟨a1, a2, a3⟩ := hJ
  obtain ⟨b1, b2, b3⟩ := hK
  obtain ⟨c1, c2⟩ := complete hP hR
  obtain ⟨s1, s2⟩ := Pt.add_is hP hR
  have hA := FF_mul_nz a3 b3
  obtain ⟨X, Y, Z⟩ := J
  obtain ⟨X', Y', Z'⟩ := K
  dsimp only at *
  subst a1 a2 b1 b2
  unfold Pj.add Pj.is
  dsimp only
  rw [pj_F, pj_G]
  refine ⟨?_, ?_, FF_mul_nz (FF_mul_nz (FF_mul_nz hA hA) c2) (FF_mul_nz (FF_mul_nz hA hA) c1)⟩
  · generalize (P.add R).x = x3 at *
    generalize 1 + dd * P.x * R.x * P.y * R.y = p at *
    generalize 1 - dd * P.x * R.x * P.y * R.y = m at *
    clear s2 c1 c2 hP hR hA
    grobner
  · generalize (P.add R).y = y3 at *
    generalize 1 + dd * P.x * R.x * P.y * R.y = p at *
    generalize 1 - dd * P.x * R.x * P.y * R.y = m at *
    clear s1 c1 c2 hP hR hA
    grobner
/-- As often as the bits of n say, from bit j - 1 down. -/
def Pj.times (J : Pj) (n : Nat) : Nat → Pj → Pj
  | 0, acc => acc
  | j + 1, acc => Pj.times J n j (if n / 2 ^ j % 2 == 1 then (acc.add acc).add J else acc.add acc)
theorem Pj.times_is {J : Pj} {P : Pt} (hP : P.on) (hJ : J.is P) (n : Nat) : ∀ (j : Nat) (acc : Pj) (q : Nat), q = n / 2 ^ j → acc.is (Pt.times q P) → (Pj.times J n j acc).is (Pt.times n P)
  | 0, acc, q, hq, h => by
    rw [Nat.pow_zero, Nat.div_one] at hq
    rw [← hq]
    exact h
  | j + 1, acc, q, hq, h => by
    have hon := Pt.times_on hP q
    have h2 := Pj.add_is hon hon h h
    rw [times_dbl hP] at h2
    have hm := Nat.div_add_mod (n / 2 ^ j) 2
    have hd : n / 2 ^ j / 2 = q := by rw [hq, Nat.div_div_eq_div_mul, Nat.pow_succ]
    rw [hd] at hm
    show (Pj.times J n j (if n / 2 ^ j % 2 == 1 then (acc.add acc).add J else acc.add acc)).is _
    rcases Nat.mod_two_eq_zero_or_one (n / 2 ^ j) with h0 | h1
    · refine Pj.times_is hP hJ n j _ (2 * q) (by omega) ?_
      rw [h0]
      exact h2
    · refine Pj.times_is hP hJ n j _ (2 * q + 1) (by omega) ?_
      rw [h1]
      exact Pj.add_is (Pt.times_on hP (2 * q)) hP h2 hJ
/-- The order. -/
def LL : Nat := 7237005577332262213973186563042994240857116359379907606001950938285454250989
theorem LL_def : LL = 2 ^ 252 + 27742317777372353535851937790883648493 := by decide +kernel
def Gj : Pj := ⟨15112221349535400772501151409588531511454012693041857206046113283949847762202, 46316835694926478169428394003475163141307993866256225615783033603165251855960, 1⟩
theorem Gj_is : Gj.is Gb := by
  exact ⟨by decide +kernel, by decide +kernel, by decide +kernel⟩
theorem order_j : (Pj.times Gj 7237005577332262213973186563042994240857116359379907606001950938285454250989 253 Pj.zero).X = 0 ∧ (Pj.times Gj 7237005577332262213973186563042994240857116359379907606001950938285454250989 253 Pj.zero).Y = (Pj.times Gj 7237005577332262213973186563042994240857116359379907606001950938285454250989 253 Pj.zero).Z := by
  decide +kernel
/-- The base L times is nothing. -/
theorem order_Gb : Pt.times LL Gb = Pt.zero := by
  have h := Pj.times_is Gb_on Gj_is LL 253 Pj.zero 0 (by decide +kernel) Pj.zero_is
  have ho := order_j
  unfold LL at *
  obtain ⟨h1, h2, h3⟩ := h
  rw [ho.1] at h1
  rw [ho.2] at h2
  refine Pt.ext' ?_ ?_
  · show _ = (0 : FF)
    refine FF_cancel (b := (Pt.times 7237005577332262213973186563042994240857116359379907606001950938285454250989 Gb).x) (c := 0) h3 ?_
    generalize (Pt.times 7237005577332262213973186563042994240857116359379907606001950938285454250989 Gb).x = a at *
    generalize (Pj.times Gj 7237005577332262213973186563042994240857116359379907606001950938285454250989 253 Pj.zero).Z = z at *
    clear h2 h3 ho
    grobner
  · show _ = (1 : FF)
    refine FF_cancel (b := (Pt.times 7237005577332262213973186563042994240857116359379907606001950938285454250989 Gb).y) (c := 1) h3 ?_
    generalize (Pt.times 7237005577332262213973186563042994240857116359379907606001950938285454250989 Gb).y = a at *
    generalize (Pj.times Gj 7237005577332262213973186563042994240857116359379907606001950938285454250989 253 Pj.zero).Z = z at *
    clear h1 h3 ho
    grobner
/-- Only what is left of a count by the order counts. -/
theorem times_mod (n : Nat) : Pt.times (n % LL) Gb = Pt.times n Gb := by
  have e : Pt.times n Gb = Pt.times (LL * (n / LL) + n % LL) Gb := by rw [Nat.div_add_mod]
  rw [e, Pt.times_add Gb_on, Nat.mul_comm LL, Pt.times_times Gb_on, order_Gb, times_zero_pt, Pt.zero_add (Pt.times_on Gb_on _)]
end

section
set_option linter.unusedVariables false
set_option linter.unusedSimpArgs false
set_option exponentiation.threshold 600

/-- A point's bytes. -/
def ptBytes (x y : FF) : List UInt8 := leB 32 (y.val + x.val % 2 * 57896044618658097711785492504343953926634992332820282019728792003956564819968)
theorem leB_add (k n m : Nat) : leB k (n + 256 ^ k * m) = leB k n := by
  induction k generalizing n with
  | zero => rfl
  | succ k ih =>
    have e : n + 256 ^ (k + 1) * m = n + 256 * (256 ^ k * m) := by rw [Nat.pow_succ, Nat.mul_comm (256 ^ k) 256, Nat.mul_assoc]
    have h1 : (n + 256 * (256 ^ k * m)) / 256 = n / 256 + 256 ^ k * m := by omega
    have h2 : UInt8.ofNat (n + 256 * (256 ^ k * m)) = UInt8.ofNat n := by
      apply UInt8.toNat_inj.1
      simp [UInt8.toNat_ofNat']
    rw [leB, leB, e, h1, ih, h2]
theorem leB_high (n : Nat) (h : n < 57896044618658097711785492504343953926634992332820282019728792003956564819968) :
    (leB 32 n).set 31 (UInt8.ofNat (n / 256 ^ 31 + 128)) = leB 32 (n + 57896044618658097711785492504343953926634992332820282019728792003956564819968) ∧ (leB 32 n)[31]? = some (UInt8.ofNat (n / 256 ^ 31)) ∧ n / 256 ^ 31 < 128 := by
  have e : (57896044618658097711785492504343953926634992332820282019728792003956564819968 : Nat) = 256 ^ 31 * 128 := by decide +kernel
  have hd : n / 256 ^ 31 < 128 := by
    rw [Nat.div_lt_iff_lt_mul (by decide +kernel), Nat.mul_comm, ← e]
    exact h
  refine ⟨?_, ?_, hd⟩
  · rw [leB_snoc 31, leB_snoc 31, e, leB_add, Nat.add_mul_div_left _ _ (by decide +kernel), List.set_append, leB_length]
    simp
  · rw [leB_snoc 31, List.getElem?_append_right (by rw [leB_length]; omega), leB_length]
    simp

instance : DecidableEq Pt := fun p q => decidable_of_iff (p.x = q.x ∧ p.y = q.y) ⟨fun h => Pt.ext' h.1 h.2, fun h => by subst h; exact ⟨rfl, rfl⟩⟩
def pB (p : Pt) : List UInt8 := ptBytes p.x p.y
theorem pB_length (p : Pt) : (pB p).length = 32 := leB_length 32 _
theorem FF_255 (y : FF) : y.val < 57896044618658097711785492504343953926634992332820282019728792003956564819968 := by have h := y.isLt; omega
theorem ptBytes_num (x y : FF) : leN (ptBytes x y) = y.val + x.val % 2 * 57896044618658097711785492504343953926634992332820282019728792003956564819968 := by
  unfold ptBytes
  rw [leN_leB]
  refine Nat.mod_eq_of_lt ?_
  have h := FF_255 y
  have hx : x.val % 2 < 2 := Nat.mod_lt _ (by omega)
  have e : (256 : Nat) ^ 32 = 2 * 57896044618658097711785492504343953926634992332820282019728792003956564819968 := by decide +kernel
  rw [e]
  omega
theorem dd_m1 : dd * 1 + 1 ≠ 0 := by decide +kernel
/-- What stands over x's square is not 0. -/
theorem den_nz (p : Pt) (h : p.on) : dd * (p.y * p.y) + 1 ≠ 0 := fun hz => by
  unfold Pt.on On at h
  have h1 : p.y * p.y = 1 := by
    generalize dd = d at *
    grobner
  rw [h1] at hz
  exact dd_m1 hz
theorem on_sq {p q : Pt} (hp : p.on) (hq : q.on) (hy : p.y = q.y) : p.x * p.x = q.x * q.x := by
  have hn := den_nz p hp
  unfold Pt.on On at hp hq
  rw [← hy] at hq
  have h : (p.x * p.x - q.x * q.x) * (dd * (p.y * p.y) + 1) = 0 := by
    generalize dd = d at *
    grobner
  rcases FF_mul h with h | h
  · generalize p.x = a at *
    generalize q.x = b at *
    clear hp hq hn
    grobner
  · exact absurd h hn
theorem two_x {a b : FF} (h : a * a = b * b) : a = b ∨ a = -b := by
  have h2 : (a - b) * (a + b) = 0 := by grobner
  rcases FF_mul h2 with h | h
  · left; grobner
  · right; grobner
theorem FF_negv (a : FF) (h : a ≠ 0) : (-a).val = 57896044618658097711785492504343953926634992332820282019728792003956564819949 - a.val := by
  have e : (-a).val = (57896044618658097711785492504343953926634992332820282019728792003956564819949 - a.val) % 57896044618658097711785492504343953926634992332820282019728792003956564819949 := rfl
  rw [e]
  have h0 : a.val ≠ 0 := fun e => h (Fin.ext e)
  exact Nat.mod_eq_of_lt (by omega)
theorem pB_inj {p q : Pt} (hp : p.on) (hq : q.on) (h : pB p = pB q) : p = q := by
  have hn := congrArg leN h
  unfold pB at hn
  rw [ptBytes_num, ptBytes_num] at hn
  have h1 := FF_255 p.y
  have h2 := FF_255 q.y
  have hy : p.y = q.y := Fin.ext (by omega)
  have hx : p.x.val % 2 = q.x.val % 2 := by omega
  refine Pt.ext' ?_ hy
  rcases two_x (on_sq hp hq hy) with h | h
  · exact h
  · by_cases h0 : q.x = 0
    · rw [h, h0]; exact Fin.ext (by decide +kernel)
    · exfalso
      have hv := FF_negv q.x h0
      rw [← h] at hv
      have h3 := q.x.isLt
      omega
open Classical in
/-- The point of bytes, if there is one. -/
noncomputable def ptOf (xs : List UInt8) : Option Pt := if h : ∃ p : Pt, p.on ∧ pB p = xs then some h.choose else none
theorem ptOf_some {xs : List UInt8} {p : Pt} (h : ptOf xs = some p) : p.on ∧ pB p = xs := by
  unfold ptOf at h
  split at h
  · rename_i hx
    simp only [Option.some.injEq] at h
    subst h
    exact hx.choose_spec
  · cases h
theorem ptOf_bytes {p : Pt} (h : p.on) : ptOf (pB p) = some p := by
  have hx : ∃ q : Pt, q.on ∧ pB q = pB p := ⟨p, h, rfl⟩
  unfold ptOf
  rw [dif_pos hx]
  exact congrArg some (pB_inj hx.choose_spec.1 h hx.choose_spec.2)
theorem ptOf_none {xs : List UInt8} (h : ptOf xs = none) {p : Pt} (hp : p.on) : pB p ≠ xs := fun e => by
  subst e
  rw [ptOf_bytes hp] at h
  cases h
theorem ptOf_len {xs : List UInt8} (h : xs.length ≠ 32) : ptOf xs = none := by
  unfold ptOf
  rw [dif_neg]
  rintro ⟨p, _, rfl⟩
  exact h (pB_length p)
theorem Gb_bytes : pB Gb = 88 :: List.replicate 31 102 := by decide +kernel
/-- What bytes tell, or nothing. -/
noncomputable def ptO (xs : List UInt8) : Pt := (ptOf xs).getD Pt.zero
theorem ptO_on (xs : List UInt8) : (ptO xs).on := by
  unfold ptO
  cases h : ptOf xs with
  | none => exact Pt.zero_on
  | some p => exact (ptOf_some h).1
theorem neg_neg_pt (p : Pt) : p.neg.neg = p := by
  unfold Pt.neg
  refine Pt.ext' ?_ rfl
  show - -p.x = p.x
  generalize p.x = a
  grobner
end
end Go.Proofs.Ytealegfmmeklcaa
