/-
  Texts of this claim in one file: Law14a, Lad.
-/
import Derived.Test.YtgehfbcagaaggaaGreatDoorPk1
import Derived.Test.YtgehfbcagaaggaaGreatDoorPk2
import Derived.Test.YtgehfbcagaaggaaGreatDoorPk10
section
namespace Go.Proofs.YtgehfbcagaaggaaGreatDoor
open Go Go.RowKit
set_option linter.unusedVariables false
set_option linter.unusedSimpArgs false
def ht (n : Int) : Nat := n.toNat.log2
def RetB (W : World) (b : Bool) (e : Ending) (w' : World) : Prop := e = .returned (.bool b) ∧ Below W.heap.size W w'
end Go.Proofs.YtgehfbcagaaggaaGreatDoor
end
section
namespace Go.Proofs.YtgehfbcagaaggaaGreatDoor
section
set_option linter.unusedVariables false
set_option linter.unusedSimpArgs false
set_option exponentiation.threshold 600
abbrev FF := Fin 57896044618658097711785492504343953926634992332820282019728792003956564819949
def dd : FF := 37095705934669439343138083508754565189542113879843219016388785533085940283555
def iF : FF := 19681161376707505956807079304988542015446066515923890162744021073123829784752
theorem iF_sq : iF * iF + 1 = 0 := by decide +kernel
theorem half_is (x : Nat) : pmod 256 x ((pp - 1) / 2) pp % pp = half x := pmod_is 256 x ((pp - 1) / 2) pp pp_two (by decide +kernel)
theorem half_dd : half 37095705934669439343138083508754565189542113879843219016388785533085940283555 = pp - 1 := (half_is _).symm.trans (by decide +kernel)
theorem FF_mul {a b : FF} (h : a * b = 0) : a = 0 ∨ b = 0 := by
  have h1 : a.val * b.val % pp = 0 := by
    have := congrArg Fin.val h
    rw [Fin.val_mul] at this
    exact this
  rcases pp_pr.euclid (Nat.dvd_of_mod_eq_zero h1) with hd | hd
  · left
    refine Fin.ext ?_
    have := Nat.eq_zero_of_dvd_of_lt hd a.isLt
    exact this
  · right
    refine Fin.ext ?_
    have := Nat.eq_zero_of_dvd_of_lt hd b.isLt
    exact this
/-- What makes 1. -/
def FI (a : FF) : FF := ⟨a.val ^ (pp - 2) % pp, Nat.mod_lt _ pp_pos⟩
theorem FF_inv {a : FF} (h : a ≠ 0) : a * FI a = 1 := by
  refine Fin.ext ?_
  rw [Fin.val_mul]
  exact inv_one a.isLt fun h0 => h (Fin.ext h0)
theorem FF_cancel {a b c : FF} (h : a ≠ 0) (e : a * b = a * c) : b = c := by
  have h1 := FF_inv h
  generalize FI a = i at h1
  grobner
/-- d is no square. -/
theorem dd_sq (a : FF) : a * a ≠ dd := fun h => by
  have h1 := congrArg Fin.val h
  rw [Fin.val_mul] at h1
  have h2 := half_sq (x := 37095705934669439343138083508754565189542113879843219016388785533085940283555) a.isLt h1
  rw [half_dd] at h2
  revert h2
  decide +kernel
theorem dd_no {a b : FF} (h : a * a = dd * (b * b)) : b = 0 := by
  refine Classical.byContradiction fun hb => ?_
  have h1 := FF_inv hb
  refine dd_sq (a * FI b) ?_
  generalize FI b = i at h1
  generalize dd = d at h
  grobner
theorem dd_nz : dd ≠ 0 := by decide +kernel
theorem FF_two {a : FF} (h : a + a = 0) : a = 0 := by
  have h2 : (2 : FF) * a = 0 := by grobner
  rcases FF_mul h2 with h | h
  · exact absurd h (by decide +kernel)
  · exact h
/-- Does a point lie on the curve? -/
def On (d x y : FF) : Prop := d * x * x * y * y = y * y - x * x - 1
/-- No sum of two points of the curve has a denominator that is 0. -/
theorem complete_of {d : FF} (hd0 : d ≠ 0) (hd : ∀ {a b : FF}, a * a = d * (b * b) → b = 0) {x1 y1 x2 y2 e : FF} (h1 : On d x1 y1) (h2 : On d x2 y2) (he : d * x1 * x2 * y1 * y2 = e) : e * e ≠ 1 := fun hee => by
  have hi := iF_sq
  generalize iF = i at hi
  unfold On at h1 h2
  have ha : x1 * y1 * (y2 + i * x2) = 0 := hd (a := y1 + e * i * x1) (by grobner)
  have hb : x1 * y1 * (y2 - i * x2) = 0 := hd (a := y1 - e * i * x1) (by grobner)
  have hc : e + e = 0 := by grobner
  have h0 := FF_two hc
  rw [h0] at hee
  exact absurd hee (by decide +kernel)
theorem complete {x1 y1 x2 y2 : FF} (h1 : On dd x1 y1) (h2 : On dd x2 y2) : 1 + dd * x1 * x2 * y1 * y2 ≠ 0 ∧ 1 - dd * x1 * x2 * y1 * y2 ≠ 0 := by
  have h := complete_of dd_nz dd_no h1 h2 rfl
  generalize dd * x1 * x2 * y1 * y2 = e at h
  refine ⟨fun hz => h ?_, fun hz => h ?_⟩
  · grobner
  · grobner
structure Pt where
  x : FF
  y : FF
def Pt.on (P : Pt) : Prop := On dd P.x P.y
def Pt.add (P R : Pt) : Pt := ⟨(P.x * R.y + R.x * P.y) * FI (1 + dd * P.x * R.x * P.y * R.y), (P.y * R.y + P.x * R.x) * FI (1 - dd * P.x * R.x * P.y * R.y)⟩
def Pt.zero : Pt := ⟨0, 1⟩
theorem Pt.zero_on : Pt.zero.on := by unfold Pt.on On Pt.zero; grobner
/-- What a sum is. -/
theorem Pt.add_is {P R : Pt} (hP : P.on) (hR : R.on) : (P.add R).x * (1 + dd * P.x * R.x * P.y * R.y) = P.x * R.y + R.x * P.y ∧ (P.add R).y * (1 - dd * P.x * R.x * P.y * R.y) = P.y * R.y + P.x * R.x := by
  have h := complete hP hR
  have h1 := FF_inv h.1
  have h2 := FF_inv h.2
  unfold Pt.add
  dsimp only
  generalize FI (1 + dd * P.x * R.x * P.y * R.y) = i at h1
  generalize FI (1 - dd * P.x * R.x * P.y * R.y) = j at h2
  generalize dd = d at *
  obtain ⟨x1, y1⟩ := P
  obtain ⟨x2, y2⟩ := R
  dsimp only at *
  clear h hP hR
  constructor
  · clear h2; generalize 1 + d * x1 * x2 * y1 * y2 = p at *; grobner
  · clear h1; generalize 1 - d * x1 * x2 * y1 * y2 = m at *; grobner
theorem closed_of (d x1 y1 x2 y2 p m nx ny : FF) (h1 : On d x1 y1) (h2 : On d x2 y2) (hp : p = 1 + d * x1 * x2 * y1 * y2) (hm : m = 1 - d * x1 * x2 * y1 * y2) (hx : nx = x1 * y2 + x2 * y1) (hy : ny = y1 * y2 + x1 * x2) :
    ny * ny * p * p - nx * nx * m * m = p * p * m * m + d * nx * nx * ny * ny := by
  unfold On at h1 h2
  subst hp hm hx hy
  grobner
theorem Pt.add_on {P R : Pt} (hP : P.on) (hR : R.on) : (P.add R).on := by
  have h := complete hP hR
  obtain ⟨ha, hb⟩ := Pt.add_is hP hR
  have hc := closed_of dd P.x P.y R.x R.y _ _ _ _ hP hR rfl rfl rfl rfl
  have h1 := FF_inv h.1
  have h2 := FF_inv h.2
  rw [← ha, ← hb] at hc
  unfold Pt.on On
  generalize (P.add R).x = x3 at *
  generalize (P.add R).y = y3 at *
  generalize 1 + dd * P.x * R.x * P.y * R.y = p at *
  generalize 1 - dd * P.x * R.x * P.y * R.y = m at *
  generalize FI p = i at *
  generalize FI m = j at *
  generalize dd = d at *
  clear ha hb hP hR h
  have hc' : (p * p * m * m) * (y3 * y3 - x3 * x3 - 1 - d * x3 * x3 * y3 * y3) = 0 := by clear h1 h2; grobner
  have hk : (i * i * j * j) * (p * p * m * m) = 1 := by clear hc hc'; grobner
  generalize p * p * m * m = q at *
  generalize i * i * j * j = k at *
  clear hc h1 h2
  grobner
theorem Pt.add_comm (P R : Pt) : P.add R = R.add P := by
  unfold Pt.add
  rw [show P.x * R.y + R.x * P.y = R.x * P.y + P.x * R.y by grobner, show P.y * R.y + P.x * R.x = R.y * P.y + R.x * P.x by grobner,
    show dd * P.x * R.x * P.y * R.y = dd * R.x * P.x * R.y * P.y by grobner]
theorem assoc_x (d x1 y1 x2 y2 x3 y3 : FF) (h1 : On d x1 y1) (h2 : On d x2 y2) (h3 : On d x3 y3) :
    ((x1 * y2 + x2 * y1) * (1 - d * x1 * x2 * y1 * y2) * y3 + x3 * (y1 * y2 + x1 * x2) * (1 + d * x1 * x2 * y1 * y2)) * ((1 + d * x2 * x3 * y2 * y3) * (1 - d * x2 * x3 * y2 * y3) + d * (x2 * y3 + x3 * y2) * (y2 * y3 + x2 * x3) * x1 * y1) =
    ((x2 * y3 + x3 * y2) * (1 - d * x2 * x3 * y2 * y3) * y1 + x1 * (y2 * y3 + x2 * x3) * (1 + d * x2 * x3 * y2 * y3)) * ((1 + d * x1 * x2 * y1 * y2) * (1 - d * x1 * x2 * y1 * y2) + d * (x1 * y2 + x2 * y1) * (y1 * y2 + x1 * x2) * x3 * y3) := by
  unfold On at h1 h2 h3; grobner
theorem assoc_y (d x1 y1 x2 y2 x3 y3 : FF) (h1 : On d x1 y1) (h2 : On d x2 y2) (h3 : On d x3 y3) :
    ((y1 * y2 + x1 * x2) * (1 + d * x1 * x2 * y1 * y2) * y3 + x3 * (x1 * y2 + x2 * y1) * (1 - d * x1 * x2 * y1 * y2)) * ((1 + d * x2 * x3 * y2 * y3) * (1 - d * x2 * x3 * y2 * y3) - d * (x2 * y3 + x3 * y2) * (y2 * y3 + x2 * x3) * x1 * y1) =
    ((y2 * y3 + x2 * x3) * (1 + d * x2 * x3 * y2 * y3) * y1 + x1 * (x2 * y3 + x3 * y2) * (1 - d * x2 * x3 * y2 * y3)) * ((1 + d * x1 * x2 * y1 * y2) * (1 - d * x1 * x2 * y1 * y2) - d * (x1 * y2 + x2 * y1) * (y1 * y2 + x1 * x2) * x3 * y3) := by
  unfold On at h1 h2 h3; grobner
theorem FF_mul_nz {a b : FF} (ha : a ≠ 0) (hb : b ≠ 0) : a * b ≠ 0 := fun h => (FF_mul h).elim ha hb
theorem frac_eq {a b u v s t : FF} (ha : a * u = s) (hb : b * v = t) (hu : u ≠ 0) (hv : v ≠ 0) (h : s * v = t * u) : a = b := by
  refine FF_cancel (FF_mul_nz hu hv) ?_
  subst ha hb
  grobner
theorem sum_x {ax ay p m nx ny x3 y3 l d : FF} (hp : ax * p = nx) (hm : ay * m = ny) (h : l * (1 + d * ax * x3 * ay * y3) = ax * y3 + x3 * ay) :
    l * (p * m + d * nx * ny * x3 * y3) = nx * m * y3 + x3 * ny * p := by
  subst hp hm; grobner
theorem sum_y {ax ay p m nx ny x3 y3 l d : FF} (hp : ax * p = nx) (hm : ay * m = ny) (h : l * (1 - d * ax * x3 * ay * y3) = ay * y3 + ax * x3) :
    l * (p * m - d * nx * ny * x3 * y3) = ny * p * y3 + x3 * nx * m := by
  subst hp hm; grobner
theorem sum_nz {ax ay p m nx ny x3 y3 d : FF} (hp : ax * p = nx) (hm : ay * m = ny) (h0 : p ≠ 0) (h1 : m ≠ 0) (h : 1 + d * ax * x3 * ay * y3 ≠ 0) : p * m + d * nx * ny * x3 * y3 ≠ 0 := by
  have h2 := FF_mul_nz (FF_mul_nz h0 h1) h
  rw [show p * m + d * nx * ny * x3 * y3 = p * m * (1 + d * ax * x3 * ay * y3) by subst hp hm; clear h h0 h1 h2; grobner]
  exact h2
theorem sum_nz' {ax ay p m nx ny x3 y3 d : FF} (hp : ax * p = nx) (hm : ay * m = ny) (h0 : p ≠ 0) (h1 : m ≠ 0) (h : 1 - d * ax * x3 * ay * y3 ≠ 0) : p * m - d * nx * ny * x3 * y3 ≠ 0 := by
  have h2 := FF_mul_nz (FF_mul_nz h0 h1) h
  rw [show p * m - d * nx * ny * x3 * y3 = p * m * (1 - d * ax * x3 * ay * y3) by subst hp hm; clear h h0 h1 h2; grobner]
  exact h2
/-- Sums of three points. -/
theorem Pt.add_assoc {P R S : Pt} (hP : P.on) (hR : R.on) (hS : S.on) : (P.add R).add S = P.add (R.add S) := by
  rw [Pt.add_comm P (R.add S)]
  have hA := Pt.add_is hP hR
  have hB := Pt.add_is hR hS
  have hL := Pt.add_is (Pt.add_on hP hR) hS
  have hM := Pt.add_is (Pt.add_on hR hS) hP
  have cA := complete hP hR
  have cB := complete hR hS
  have cL := complete (Pt.add_on hP hR) hS
  have cM := complete (Pt.add_on hR hS) hP
  have ex : ((P.add R).add S).x = ((R.add S).add P).x :=
    frac_eq (sum_x hA.1 hA.2 hL.1) (sum_x hB.1 hB.2 hM.1) (sum_nz hA.1 hA.2 cA.1 cA.2 cL.1) (sum_nz hB.1 hB.2 cB.1 cB.2 cM.1) (assoc_x dd P.x P.y R.x R.y S.x S.y hP hR hS)
  have ey : ((P.add R).add S).y = ((R.add S).add P).y :=
    frac_eq (sum_y hA.1 hA.2 hL.2) (sum_y hB.1 hB.2 hM.2) (sum_nz' hA.1 hA.2 cA.1 cA.2 cL.2) (sum_nz' hB.1 hB.2 cB.1 cB.2 cM.2) (assoc_y dd P.x P.y R.x R.y S.x S.y hP hR hS)
  generalize (P.add R).add S = L at ex ey
  generalize (R.add S).add P = M at ex ey
  obtain ⟨a, b⟩ := L
  obtain ⟨a', b'⟩ := M
  cases ex
  cases ey
  rfl
theorem Pt.ext' {P R : Pt} (hx : P.x = R.x) (hy : P.y = R.y) : P = R := by
  obtain ⟨a, b⟩ := P
  obtain ⟨a', b'⟩ := R
  cases hx
  cases hy
  rfl
theorem Pt.zero_add {P : Pt} (h : P.on) : Pt.zero.add P = P := by
  obtain ⟨h1, h2⟩ := Pt.add_is Pt.zero_on h
  refine Pt.ext' ?_ ?_
  · generalize (Pt.zero.add P).x = a at *
    unfold Pt.zero at h1
    dsimp only at h1
    clear h2 h
    grobner
  · generalize (Pt.zero.add P).y = a at *
    unfold Pt.zero at h2
    dsimp only at h2
    clear h1 h
    grobner
/-- A point so many times. -/
def Pt.times : Nat → Pt → Pt
  | 0, _ => Pt.zero
  | n + 1, P => (Pt.times n P).add P
theorem Pt.times_on {P : Pt} (h : P.on) : ∀ n, (Pt.times n P).on
  | 0 => Pt.zero_on
  | n + 1 => Pt.add_on (Pt.times_on h n) h
theorem Pt.times_add {P : Pt} (h : P.on) (m : Nat) : ∀ n, Pt.times (m + n) P = (Pt.times m P).add (Pt.times n P)
  | 0 => by rw [Nat.add_zero, Pt.add_comm]; exact (Pt.zero_add (Pt.times_on h m)).symm
  | n + 1 => by
    show (Pt.times (m + n) P).add P = (Pt.times m P).add ((Pt.times n P).add P)
    rw [Pt.times_add h m n, Pt.add_assoc (Pt.times_on h m) (Pt.times_on h n) h]
theorem Pt.times_times {P : Pt} (h : P.on) (m : Nat) : ∀ n, Pt.times (n * m) P = Pt.times n (Pt.times m P)
  | 0 => by rw [Nat.zero_mul]; rfl
  | n + 1 => by
    rw [Nat.succ_mul, Pt.times_add h, Pt.times_times h m n]; rfl
end
section
set_option linter.unusedVariables false
set_option linter.unusedSimpArgs false
set_option exponentiation.threshold 600
/-- Two numbers tell a point's place. -/
def Rp (P : Pt) (X Z : FF) : Prop := X - Z = (X + Z) * P.y ∧ X + Z ≠ 0
end
section
set_option linter.unusedVariables false
set_option linter.unusedSimpArgs false
set_option exponentiation.threshold 600
theorem FI_val (a : FF) : (FI a).val = a.val ^ (pp - 2) % pp := rfl
theorem FI_zero : FI 0 = 0 := by
  have h0 : (0 : FF).val = 0 := by decide +kernel
  refine Fin.ext ?_
  rw [FI_val, h0, Nat.zero_pow (Nat.sub_pos_of_lt (by rw [pp_def]; decide +kernel)), Nat.zero_mod]
def uOf (P : Pt) : FF := (1 + P.y) * FI (1 - P.y)
theorem Pt.add_zero {P : Pt} (h : P.on) : P.add Pt.zero = P := by rw [Pt.add_comm]; exact Pt.zero_add h
theorem times_dbl {P : Pt} (h : P.on) (m : Nat) : (Pt.times m P).add (Pt.times m P) = Pt.times (2 * m) P := by
  rw [← Pt.times_add h, Nat.two_mul]
theorem Rp.out {P : Pt} {X Z : FF} (h : Rp P X Z) : X * FI Z = uOf P := by
  obtain ⟨h1, h2⟩ := h
  unfold uOf
  by_cases hz : Z = 0
  · rw [hz] at h1 h2 ⊢
    have hy : 1 - P.y = 0 := by
      have h3 : X ≠ 0 := fun h => h2 (by rw [h]; decide +kernel)
      refine FF_cancel (c := 0) h3 ?_
      generalize P.y = y at *
      clear h2 h3 hz
      grobner
    rw [hy, FI_zero]
    generalize P.y = y at *
    clear h1 h2 hz hy
    grobner
  · have hy : 1 - P.y ≠ 0 := fun hy => by
      have : Z + Z = 0 := by
        generalize P.y = y at *
        clear h2 hz
        grobner
      exact hz (FF_two this)
    have i1 := FF_inv hz
    have i2 := FF_inv hy
    generalize FI Z = i at *
    generalize FI (1 - P.y) = j at *
    generalize P.y = y at *
    clear hz hy h2
    grobner
theorem times_zero_pt : ∀ n, Pt.times n Pt.zero = Pt.zero
  | 0 => rfl
  | n + 1 => by
    show (Pt.times n Pt.zero).add Pt.zero = Pt.zero
    rw [times_zero_pt n, Pt.zero_add Pt.zero_on]
/-- The base. -/
def Gb : Pt := ⟨15112221349535400772501151409588531511454012693041857206046113283949847762202, 46316835694926478169428394003475163141307993866256225615783033603165251855960⟩
theorem Gb_on : Gb.on := by unfold Pt.on On Gb; decide +kernel
end
section
set_option linter.unusedVariables false
set_option exponentiation.threshold 600
end
end Go.Proofs.YtgehfbcagaaggaaGreatDoor
end
