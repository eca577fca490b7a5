/-
  Texts of this claim in one file: CvP.
-/
import Derived.Test.YtpkmidaflnbobaaGreatDoorPk14
import Derived.Test.YtpkmidaflnbobaaGreatDoorPk44
section
namespace Go.Proofs.YtpkmidaflnbobaaGreatDoor
section
set_option linter.unusedVariables false
set_option linter.unusedSimpArgs false
set_option exponentiation.threshold 600
/-- Three numbers tell a point. -/
structure Pj where
  X : FF
  Y : FF
  Z : FF
deriving DecidableEq
def Pj.is (J : Pj) (P : Pt) : Prop := J.X = P.x * J.Z ∧ J.Y = P.y * J.Z ∧ J.Z ≠ 0
def Pj.zero : Pj := ⟨0, 1, 1⟩
/-- The sum, without a quotient. -/
def Pj.add (J K : Pj) : Pj :=
  let A := J.Z * K.Z
  let B := A * A
  let C := J.X * K.X
  let D := J.Y * K.Y
  let E := dd * C * D
  let F := B - E
  let G := B + E
  ⟨A * F * (J.X * K.Y + K.X * J.Y), A * G * (D + C), F * G⟩
theorem Pj.zero_is : Pj.zero.is Pt.zero := by
  exact ⟨by decide +kernel, by decide +kernel, by decide +kernel⟩
theorem pj_F (d a b x y Z Z' : FF) : Z * Z' * (Z * Z') - d * (a * Z * (x * Z')) * (b * Z * (y * Z')) = (Z * Z') * (Z * Z') * (1 - d * a * x * b * y) := by grobner
theorem pj_G (d a b x y Z Z' : FF) : Z * Z' * (Z * Z') + d * (a * Z * (x * Z')) * (b * Z * (y * Z')) = (Z * Z') * (Z * Z') * (1 + d * a * x * b * y) := by grobner
theorem Pj.add_is {J K : Pj} {P R : Pt} (hP : P.on) (hR : R.on) (hJ : J.is P) (hK : K.is R) : (J.add K).is (P.add R) := by
  obtain ⟨a1, a2, a3⟩ := hJ
  obtain ⟨b1, b2, b3⟩ := hK
  obtain ⟨c1, c2⟩ := complete hP hR
  obtain ⟨s1, s2⟩ := Pt.add_is hP hR
  have hA := FF_mul_nz a3 b3
  obtain ⟨X, Y, Z⟩ := J
  obtain ⟨X', Y', Z'⟩ := K
  dsimp only at *
  subst a1 a2 b1 b2
  unfold Pj.add Pj.is
  dsimp only
  rw [pj_F, pj_G]
  refine ⟨?_, ?_, FF_mul_nz (FF_mul_nz (FF_mul_nz hA hA) c2) (FF_mul_nz (FF_mul_nz hA hA) c1)⟩
  · generalize (P.add R).x = x3 at *
    generalize 1 + dd * P.x * R.x * P.y * R.y = p at *
    generalize 1 - dd * P.x * R.x * P.y * R.y = m at *
    clear s2 c1 c2 hP hR hA
    grobner
  · generalize (P.add R).y = y3 at *
    generalize 1 + dd * P.x * R.x * P.y * R.y = p at *
    generalize 1 - dd * P.x * R.x * P.y * R.y = m at *
    clear s1 c1 c2 hP hR hA
    grobner
/-- As often as the bits of n say, from bit j - 1 down. -/
def Pj.times (J : Pj) (n : Nat) : Nat → Pj → Pj
  | 0, acc => acc
  | j + 1, acc => Pj.times J n j (if n / 2 ^ j % 2 == 1 then (acc.add acc).add J else acc.add acc)
theorem Pj.times_is {J : Pj} {P : Pt} (hP : P.on) (hJ : J.is P) (n : Nat) : ∀ (j : Nat) (acc : Pj) (q : Nat), q = n / 2 ^ j → acc.is (Pt.times q P) → (Pj.times J n j acc).is (Pt.times n P)
  | 0, acc, q, hq, h => by
    rw [Nat.pow_zero, Nat.div_one] at hq
    rw [← hq]
    exact h
  | j + 1, acc, q, hq, h => by
    have hon := Pt.times_on hP q
    have h2 := Pj.add_is hon hon h h
    rw [times_dbl hP] at h2
    have hm := Nat.div_add_mod (n / 2 ^ j) 2
    have hd : n / 2 ^ j / 2 = q := by rw [hq, Nat.div_div_eq_div_mul, Nat.pow_succ]
    rw [hd] at hm
    show (Pj.times J n j (if n / 2 ^ j % 2 == 1 then (acc.add acc).add J else acc.add acc)).is _
    rcases Nat.mod_two_eq_zero_or_one (n / 2 ^ j) with h0 | h1
    · refine Pj.times_is hP hJ n j _ (2 * q) (by omega) ?_
      rw [h0]
      exact h2
    · refine Pj.times_is hP hJ n j _ (2 * q + 1) (by omega) ?_
      rw [h1]
      exact Pj.add_is (Pt.times_on hP (2 * q)) hP h2 hJ
/-- The order. -/
def LL : Nat := 7237005577332262213973186563042994240857116359379907606001950938285454250989
def Gj : Pj := ⟨15112221349535400772501151409588531511454012693041857206046113283949847762202, 46316835694926478169428394003475163141307993866256225615783033603165251855960, 1⟩
theorem Gj_is : Gj.is Gb := by
  exact ⟨by decide +kernel, by decide +kernel, by decide +kernel⟩
theorem order_j : (Pj.times Gj 7237005577332262213973186563042994240857116359379907606001950938285454250989 253 Pj.zero).X = 0 ∧ (Pj.times Gj 7237005577332262213973186563042994240857116359379907606001950938285454250989 253 Pj.zero).Y = (Pj.times Gj 7237005577332262213973186563042994240857116359379907606001950938285454250989 253 Pj.zero).Z := by
  decide +kernel
/-- The base L times is nothing. -/
theorem order_Gb : Pt.times LL Gb = Pt.zero := by
  have h := Pj.times_is Gb_on Gj_is LL 253 Pj.zero 0 (by decide +kernel) Pj.zero_is
  have ho := order_j
  unfold LL at *
  obtain ⟨h1, h2, h3⟩ := h
  rw [ho.1] at h1
  rw [ho.2] at h2
  refine Pt.ext' ?_ ?_
  · show _ = (0 : FF)
    refine FF_cancel (b := (Pt.times 7237005577332262213973186563042994240857116359379907606001950938285454250989 Gb).x) (c := 0) h3 ?_
    generalize (Pt.times 7237005577332262213973186563042994240857116359379907606001950938285454250989 Gb).x = a at *
    generalize (Pj.times Gj 7237005577332262213973186563042994240857116359379907606001950938285454250989 253 Pj.zero).Z = z at *
    clear h2 h3 ho
    grobner
  · show _ = (1 : FF)
    refine FF_cancel (b := (Pt.times 7237005577332262213973186563042994240857116359379907606001950938285454250989 Gb).y) (c := 1) h3 ?_
    generalize (Pt.times 7237005577332262213973186563042994240857116359379907606001950938285454250989 Gb).y = a at *
    generalize (Pj.times Gj 7237005577332262213973186563042994240857116359379907606001950938285454250989 253 Pj.zero).Z = z at *
    clear h1 h3 ho
    grobner
/-- Only what is left of a count by the order counts. -/
theorem times_mod (n : Nat) : Pt.times (n % LL) Gb = Pt.times n Gb := by
  have e : Pt.times n Gb = Pt.times (LL * (n / LL) + n % LL) Gb := by rw [Nat.div_add_mod]
  rw [e, Pt.times_add Gb_on, Nat.mul_comm LL, Pt.times_times Gb_on, order_Gb, times_zero_pt, Pt.zero_add (Pt.times_on Gb_on _)]
end
section
set_option linter.unusedVariables false
set_option linter.unusedSimpArgs false
set_option exponentiation.threshold 600
instance : DecidableEq Pt := fun p q => decidable_of_iff (p.x = q.x ∧ p.y = q.y) ⟨fun h => Pt.ext' h.1 h.2, fun h => by subst h; exact ⟨rfl, rfl⟩⟩
end
end Go.Proofs.YtpkmidaflnbobaaGreatDoor
end
