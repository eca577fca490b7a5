/-
  Texts of this claim in one file: Lad.
-/
import Derived.Test.YtpkmidaflnbobaaGreatDoorPk13
section
namespace Go.Proofs.YtpkmidaflnbobaaGreatDoor
section
set_option linter.unusedVariables false
set_option linter.unusedSimpArgs false
set_option exponentiation.threshold 600
abbrev FF := Fin 57896044618658097711785492504343953926634992332820282019728792003956564819949
def dd : FF := 37095705934669439343138083508754565189542113879843219016388785533085940283555
def iF : FF := 19681161376707505956807079304988542015446066515923890162744021073123829784752
theorem iF_sq : iF * iF + 1 = 0 := by decide +kernel
theorem dd_is : dd * 121666 + 121665 = 0 := by decide +kernel
theorem half_is (x : Nat) : pmod 256 x ((pp - 1) / 2) pp % pp = half x := pmod_is 256 x ((pp - 1) / 2) pp pp_two (by decide +kernel)
theorem half_dd : half 37095705934669439343138083508754565189542113879843219016388785533085940283555 = pp - 1 := (half_is _).symm.trans (by decide +kernel)
theorem FF_mul {a b : FF} (h : a * b = 0) : a = 0 ∨ b = 0 := by
  have h1 : a.val * b.val % pp = 0 := by
    have := congrArg Fin.val h
    rw [Fin.val_mul] at this
    exact this
  rcases pp_pr.euclid (Nat.dvd_of_mod_eq_zero h1) with hd | hd
  · left
    refine Fin.ext ?_
    have := Nat.eq_zero_of_dvd_of_lt hd a.isLt
    exact this
  · right
    refine Fin.ext ?_
    have := Nat.eq_zero_of_dvd_of_lt hd b.isLt
    exact this
/-- What makes 1. -/
def FI (a : FF) : FF := ⟨a.val ^ (pp - 2) % pp, Nat.mod_lt _ pp_pos⟩
theorem FF_inv {a : FF} (h : a ≠ 0) : a * FI a = 1 := by
  refine Fin.ext ?_
  rw [Fin.val_mul]
  exact inv_one a.isLt fun h0 => h (Fin.ext h0)
theorem FF_cancel {a b c : FF} (h : a ≠ 0) (e : a * b = a * c) : b = c := by
  have h1 := FF_inv h
  generalize FI a = i at h1
  grobner
/-- d is no square. -/
theorem dd_sq (a : FF) : a * a ≠ dd := fun h => by
  have h1 := congrArg Fin.val h
  rw [Fin.val_mul] at h1
  have h2 := half_sq (x := 37095705934669439343138083508754565189542113879843219016388785533085940283555) a.isLt h1
  rw [half_dd] at h2
  revert h2
  decide +kernel
theorem dd_no {a b : FF} (h : a * a = dd * (b * b)) : b = 0 := by
  refine Classical.byContradiction fun hb => ?_
  have h1 := FF_inv hb
  refine dd_sq (a * FI b) ?_
  generalize FI b = i at h1
  generalize dd = d at h
  grobner
theorem dd_nz : dd ≠ 0 := by decide +kernel
theorem FF_two {a : FF} (h : a + a = 0) : a = 0 := by
  have h2 : (2 : FF) * a = 0 := by grobner
  rcases FF_mul h2 with h | h
  · exact absurd h (by decide +kernel)
  · exact h
/-- Does a point lie on the curve? -/
def On (d x y : FF) : Prop := d * x * x * y * y = y * y - x * x - 1
/-- No sum of two points of the curve has a denominator that is 0. -/
theorem complete_of {d : FF} (hd0 : d ≠ 0) (hd : ∀ {a b : FF}, a * a = d * (b * b) → b = 0) {x1 y1 x2 y2 e : FF} (h1 : On d x1 y1) (h2 : On d x2 y2) (he : d * x1 * x2 * y1 * y2 = e) : e * e ≠ 1 := fun hee => by
  have hi := iF_sq
  generalize iF = i at hi
  unfold On at h1 h2
  have ha : x1 * y1 * (y2 + i * x2) = 0 := hd (a := y1 + e * i * x1) (by grobner)
  have hb : x1 * y1 * (y2 - i * x2) = 0 := hd (a := y1 - e * i * x1) (by grobner)
  have hc : e + e = 0 := by grobner
  have h0 := FF_two hc
  rw [h0] at hee
  exact absurd hee (by decide +kernel)
theorem complete {x1 y1 x2 y2 : FF} (h1 : On dd x1 y1) (h2 : On dd x2 y2) : 1 + dd * x1 * x2 * y1 * y2 ≠ 0 ∧ 1 - dd * x1 * x2 * y1 * y2 ≠ 0 := by
  have h := complete_of dd_nz dd_no h1 h2 rfl
  generalize dd * x1 * x2 * y1 * y2 = e at h
  refine ⟨fun hz => h ?_, fun hz => h ?_⟩
  · grobner
  · grobner
structure Pt where
  x : FF
  y : FF
def Pt.on (P : Pt) : Prop := On dd P.x P.y
def Pt.add (P R : Pt) : Pt := ⟨(P.x * R.y + R.x * P.y) * FI (1 + dd * P.x * R.x * P.y * R.y), (P.y * R.y + P.x * R.x) * FI (1 - dd * P.x * R.x * P.y * R.y)⟩
def Pt.zero : Pt := ⟨0, 1⟩
def Pt.neg (P : Pt) : Pt := ⟨-P.x, P.y⟩
theorem Pt.zero_on : Pt.zero.on := by unfold Pt.on On Pt.zero; grobner
theorem Pt.neg_on {P : Pt} (h : P.on) : P.neg.on := by unfold Pt.on On Pt.neg at *; grobner
/-- What a sum is. -/
theorem Pt.add_is {P R : Pt} (hP : P.on) (hR : R.on) : (P.add R).x * (1 + dd * P.x * R.x * P.y * R.y) = P.x * R.y + R.x * P.y ∧ (P.add R).y * (1 - dd * P.x * R.x * P.y * R.y) = P.y * R.y + P.x * R.x := by
  have h := complete hP hR
  have h1 := FF_inv h.1
  have h2 := FF_inv h.2
  unfold Pt.add
  dsimp only
  generalize FI (1 + dd * P.x * R.x * P.y * R.y) = i at h1
  generalize FI (1 - dd * P.x * R.x * P.y * R.y) = j at h2
  generalize dd = d at *
  obtain ⟨x1, y1⟩ := P
  obtain ⟨x2, y2⟩ := R
  dsimp only at *
  clear h hP hR
  constructor
  · clear h2; generalize 1 + d * x1 * x2 * y1 * y2 = p at *; grobner
  · clear h1; generalize 1 - d * x1 * x2 * y1 * y2 = m at *; grobner
theorem closed_of (d x1 y1 x2 y2 p m nx ny : FF) (h1 : On d x1 y1) (h2 : On d x2 y2) (hp : p = 1 + d * x1 * x2 * y1 * y2) (hm : m = 1 - d * x1 * x2 * y1 * y2) (hx : nx = x1 * y2 + x2 * y1) (hy : ny = y1 * y2 + x1 * x2) :
    ny * ny * p * p - nx * nx * m * m = p * p * m * m + d * nx * nx * ny * ny := by
  unfold On at h1 h2
  subst hp hm hx hy
  grobner
theorem Pt.add_on {P R : Pt} (hP : P.on) (hR : R.on) : (P.add R).on := by
  have h := complete hP hR
  obtain ⟨ha, hb⟩ := Pt.add_is hP hR
  have hc := closed_of dd P.x P.y R.x R.y _ _ _ _ hP hR rfl rfl rfl rfl
  have h1 := FF_inv h.1
  have h2 := FF_inv h.2
  rw [← ha, ← hb] at hc
  unfold Pt.on On
  generalize (P.add R).x = x3 at *
  generalize (P.add R).y = y3 at *
  generalize 1 + dd * P.x * R.x * P.y * R.y = p at *
  generalize 1 - dd * P.x * R.x * P.y * R.y = m at *
  generalize FI p = i at *
  generalize FI m = j at *
  generalize dd = d at *
  clear ha hb hP hR h
  have hc' : (p * p * m * m) * (y3 * y3 - x3 * x3 - 1 - d * x3 * x3 * y3 * y3) = 0 := by clear h1 h2; grobner
  have hk : (i * i * j * j) * (p * p * m * m) = 1 := by clear hc hc'; grobner
  generalize p * p * m * m = q at *
  generalize i * i * j * j = k at *
  clear hc h1 h2
  grobner
theorem Pt.add_comm (P R : Pt) : P.add R = R.add P := by
  unfold Pt.add
  rw [show P.x * R.y + R.x * P.y = R.x * P.y + P.x * R.y by grobner, show P.y * R.y + P.x * R.x = R.y * P.y + R.x * P.x by grobner,
    show dd * P.x * R.x * P.y * R.y = dd * R.x * P.x * R.y * P.y by grobner]
theorem assoc_x (d x1 y1 x2 y2 x3 y3 : FF) (h1 : On d x1 y1) (h2 : On d x2 y2) (h3 : On d x3 y3) :
    ((x1 * y2 + x2 * y1) * (1 - d * x1 * x2 * y1 * y2) * y3 + x3 * (y1 * y2 + x1 * x2) * (1 + d * x1 * x2 * y1 * y2)) * ((1 + d * x2 * x3 * y2 * y3) * (1 - d * x2 * x3 * y2 * y3) + d * (x2 * y3 + x3 * y2) * (y2 * y3 + x2 * x3) * x1 * y1) =
    ((x2 * y3 + x3 * y2) * (1 - d * x2 * x3 * y2 * y3) * y1 + x1 * (y2 * y3 + x2 * x3) * (1 + d * x2 * x3 * y2 * y3)) * ((1 + d * x1 * x2 * y1 * y2) * (1 - d * x1 * x2 * y1 * y2) + d * (x1 * y2 + x2 * y1) * (y1 * y2 + x1 * x2) * x3 * y3) := by
  unfold On at h1 h2 h3; grobner
theorem assoc_y (d x1 y1 x2 y2 x3 y3 : FF) (h1 : On d x1 y1) (h2 : On d x2 y2) (h3 : On d x3 y3) :
    ((y1 * y2 + x1 * x2) * (1 + d * x1 * x2 * y1 * y2) * y3 + x3 * (x1 * y2 + x2 * y1) * (1 - d * x1 * x2 * y1 * y2)) * ((1 + d * x2 * x3 * y2 * y3) * (1 - d * x2 * x3 * y2 * y3) - d * (x2 * y3 + x3 * y2) * (y2 * y3 + x2 * x3) * x1 * y1) =
    ((y2 * y3 + x2 * x3) * (1 + d * x2 * x3 * y2 * y3) * y1 + x1 * (x2 * y3 + x3 * y2) * (1 - d * x2 * x3 * y2 * y3)) * ((1 + d * x1 * x2 * y1 * y2) * (1 - d * x1 * x2 * y1 * y2) - d * (x1 * y2 + x2 * y1) * (y1 * y2 + x1 * x2) * x3 * y3) := by
  unfold On at h1 h2 h3; grobner
theorem FF_mul_nz {a b : FF} (ha : a ≠ 0) (hb : b ≠ 0) : a * b ≠ 0 := fun h => (FF_mul h).elim ha hb
theorem frac_eq {a b u v s t : FF} (ha : a * u = s) (hb : b * v = t) (hu : u ≠ 0) (hv : v ≠ 0) (h : s * v = t * u) : a = b := by
  refine FF_cancel (FF_mul_nz hu hv) ?_
  subst ha hb
  grobner
theorem sum_x {ax ay p m nx ny x3 y3 l d : FF} (hp : ax * p = nx) (hm : ay * m = ny) (h : l * (1 + d * ax * x3 * ay * y3) = ax * y3 + x3 * ay) :
    l * (p * m + d * nx * ny * x3 * y3) = nx * m * y3 + x3 * ny * p := by
  subst hp hm; grobner
theorem sum_y {ax ay p m nx ny x3 y3 l d : FF} (hp : ax * p = nx) (hm : ay * m = ny) (h : l * (1 - d * ax * x3 * ay * y3) = ay * y3 + ax * x3) :
    l * (p * m - d * nx * ny * x3 * y3) = ny * p * y3 + x3 * nx * m := by
  subst hp hm; grobner
theorem sum_nz {ax ay p m nx ny x3 y3 d : FF} (hp : ax * p = nx) (hm : ay * m = ny) (h0 : p ≠ 0) (h1 : m ≠ 0) (h : 1 + d * ax * x3 * ay * y3 ≠ 0) : p * m + d * nx * ny * x3 * y3 ≠ 0 := by
  have h2 := FF_mul_nz (FF_mul_nz h0 h1) h
  rw [show p * m + d * nx * ny * x3 * y3 = p * m * (1 + d * ax * x3 * ay * y3) by subst hp hm; clear h h0 h1 h2; grobner]
  exact h2
theorem sum_nz' {ax ay p m nx ny x3 y3 d : FF} (hp : ax * p = nx) (hm : ay * m = ny) (h0 : p ≠ 0) (h1 : m ≠ 0) (h : 1 - d * ax * x3 * ay * y3 ≠ 0) : p * m - d * nx * ny * x3 * y3 ≠ 0 := by
  have h2 := FF_mul_nz (FF_mul_nz h0 h1) h
  rw [show p * m - d * nx * ny * x3 * y3 = p * m * (1 - d * ax * x3 * ay * y3) by subst hp hm; clear h h0 h1 h2; grobner]
  exact h2
/-- Sums of three points. -/
theorem Pt.add_assoc {P R S : Pt} (hP : P.on) (hR : R.on) (hS : S.on) : (P.add R).add S = P.add (R.add S) := by
  rw [Pt.add_comm P (R.add S)]
  have hA := Pt.add_is hP hR
  have hB := Pt.add_is hR hS
  have hL := Pt.add_is (Pt.add_on hP hR) hS
  have hM := Pt.add_is (Pt.add_on hR hS) hP
  have cA := complete hP hR
  have cB := complete hR hS
  have cL := complete (Pt.add_on hP hR) hS
  have cM := complete (Pt.add_on hR hS) hP
  have ex : ((P.add R).add S).x = ((R.add S).add P).x :=
    frac_eq (sum_x hA.1 hA.2 hL.1) (sum_x hB.1 hB.2 hM.1) (sum_nz hA.1 hA.2 cA.1 cA.2 cL.1) (sum_nz hB.1 hB.2 cB.1 cB.2 cM.1) (assoc_x dd P.x P.y R.x R.y S.x S.y hP hR hS)
  have ey : ((P.add R).add S).y = ((R.add S).add P).y :=
    frac_eq (sum_y hA.1 hA.2 hL.2) (sum_y hB.1 hB.2 hM.2) (sum_nz' hA.1 hA.2 cA.1 cA.2 cL.2) (sum_nz' hB.1 hB.2 cB.1 cB.2 cM.2) (assoc_y dd P.x P.y R.x R.y S.x S.y hP hR hS)
  generalize (P.add R).add S = L at ex ey
  generalize (R.add S).add P = M at ex ey
  obtain ⟨a, b⟩ := L
  obtain ⟨a', b'⟩ := M
  cases ex
  cases ey
  rfl
theorem Pt.ext' {P R : Pt} (hx : P.x = R.x) (hy : P.y = R.y) : P = R := by
  obtain ⟨a, b⟩ := P
  obtain ⟨a', b'⟩ := R
  cases hx
  cases hy
  rfl
theorem Pt.zero_add {P : Pt} (h : P.on) : Pt.zero.add P = P := by
  obtain ⟨h1, h2⟩ := Pt.add_is Pt.zero_on h
  refine Pt.ext' ?_ ?_
  · generalize (Pt.zero.add P).x = a at *
    unfold Pt.zero at h1
    dsimp only at h1
    clear h2 h
    grobner
  · generalize (Pt.zero.add P).y = a at *
    unfold Pt.zero at h2
    dsimp only at h2
    clear h1 h
    grobner
theorem Pt.neg_add {P : Pt} (h : P.on) : P.neg.add P = Pt.zero := by
  obtain ⟨h1, h2⟩ := Pt.add_is (Pt.neg_on h) h
  have hc := complete (Pt.neg_on h) h
  unfold Pt.on On at h
  refine Pt.ext' ?_ ?_
  · refine FF_cancel hc.1 (b := (P.neg.add P).x) (c := (0 : FF)) ?_
    generalize (P.neg.add P).x = a at *
    unfold Pt.neg at *
    dsimp only at *
    clear h2 hc h
    grobner
  · refine FF_cancel hc.2 (b := (P.neg.add P).y) (c := (1 : FF)) ?_
    generalize (P.neg.add P).y = a at *
    unfold Pt.neg at *
    dsimp only at *
    clear h1 hc
    grobner
/-- A point so many times. -/
def Pt.times : Nat → Pt → Pt
  | 0, _ => Pt.zero
  | n + 1, P => (Pt.times n P).add P
theorem Pt.times_on {P : Pt} (h : P.on) : ∀ n, (Pt.times n P).on
  | 0 => Pt.zero_on
  | n + 1 => Pt.add_on (Pt.times_on h n) h
theorem Pt.times_add {P : Pt} (h : P.on) (m : Nat) : ∀ n, Pt.times (m + n) P = (Pt.times m P).add (Pt.times n P)
  | 0 => by rw [Nat.add_zero, Pt.add_comm]; exact (Pt.zero_add (Pt.times_on h m)).symm
  | n + 1 => by
    show (Pt.times (m + n) P).add P = (Pt.times m P).add ((Pt.times n P).add P)
    rw [Pt.times_add h m n, Pt.add_assoc (Pt.times_on h m) (Pt.times_on h n) h]
theorem Pt.times_times {P : Pt} (h : P.on) (m : Nat) : ∀ n, Pt.times (n * m) P = Pt.times n (Pt.times m P)
  | 0 => by rw [Nat.zero_mul]; rfl
  | n + 1 => by
    rw [Nat.succ_mul, Pt.times_add h, Pt.times_times h m n]; rfl
theorem Pt.times_swap {P : Pt} (h : P.on) (m n : Nat) : Pt.times m (Pt.times n P) = Pt.times n (Pt.times m P) := by
  rw [← Pt.times_times h, ← Pt.times_times h, Nat.mul_comm]
end
section
set_option linter.unusedVariables false
set_option linter.unusedSimpArgs false
set_option exponentiation.threshold 600
/-- Two numbers tell a point's place. -/
def Rp (P : Pt) (X Z : FF) : Prop := X - Z = (X + Z) * P.y ∧ X + Z ≠ 0
theorem dbl_of {d x y y3 X Z : FF} (hd : d * 121666 + 121665 = 0) (hc : On d x y) (hm : 1 - d * x * x * y * y ≠ 0) (h3 : y3 * (1 - d * x * x * y * y) = y * y + x * x) (hr : X - Z = (X + Z) * y) :
    (X + Z) * (X + Z) * ((X - Z) * (X - Z)) - ((X + Z) * (X + Z) - (X - Z) * (X - Z)) * ((X + Z) * (X + Z) + 121665 * ((X + Z) * (X + Z) - (X - Z) * (X - Z))) =
    ((X + Z) * (X + Z) * ((X - Z) * (X - Z)) + ((X + Z) * (X + Z) - (X - Z) * (X - Z)) * ((X + Z) * (X + Z) + 121665 * ((X + Z) * (X + Z) - (X - Z) * (X - Z)))) * y3 := by
  refine FF_cancel hm ?_
  rw [hr]
  generalize X + Z = A
  unfold On at hc
  clear hm hr
  have h1 : (A * A * (A * y * (A * y)) - (A * A - A * y * (A * y)) * (A * A + 121665 * (A * A - A * y * (A * y)))) * (1 - d * x * x * y * y) =
    (A * A * (A * y * (A * y)) + (A * A - A * y * (A * y)) * (A * A + 121665 * (A * A - A * y * (A * y)))) * (y * y + x * x) := by
    clear h3
    grobner
  rw [← h3] at h1
  generalize 1 - d * x * x * y * y = m at *
  clear hd hc h3
  grobner
theorem Rp.dbl {P : Pt} {X Z : FF} (hP : P.on) (h : Rp P X Z) : Rp (P.add P) ((X + Z) * (X + Z) * ((X - Z) * (X - Z))) (((X + Z) * (X + Z) - (X - Z) * (X - Z)) * ((X + Z) * (X + Z) + 121665 * ((X + Z) * (X + Z) - (X - Z) * (X - Z)))) := by
  obtain ⟨hr, hn⟩ := h
  have h0 := dbl_of dd_is hP (complete hP hP).2 (Pt.add_is hP hP).2 hr
  refine ⟨h0, fun hz => ?_⟩
  rw [hz] at h0
  generalize (P.add P).y = y3 at h0
  have ha : (X + Z) * (X + Z) * ((X - Z) * (X - Z)) = 0 := by
    refine FF_two ?_
    generalize (X + Z) * (X + Z) * ((X - Z) * (X - Z)) = u at *
    generalize ((X + Z) * (X + Z) - (X - Z) * (X - Z)) * ((X + Z) * (X + Z) + 121665 * ((X + Z) * (X + Z) - (X - Z) * (X - Z))) = v at *
    clear hr hn
    grobner
  have hb : X - Z = 0 := by
    rcases FF_mul ha with h | h
    · rcases FF_mul h with h | h <;> exact absurd h hn
    · rcases FF_mul h with h | h <;> exact h
  rw [ha, hb] at hz
  have hk : (121666 : FF) * ((X + Z) * (X + Z) * ((X + Z) * (X + Z))) = 0 := by
    generalize X + Z = A at *
    clear hr hn h0 ha hb
    grobner
  rcases FF_mul hk with h | h
  · exact absurd h (by decide +kernel)
  · exact absurd h (FF_mul_nz (FF_mul_nz hn hn) (FF_mul_nz hn hn))
theorem diff_of (d x1 y1 x2 y2 : FF) (h1 : On d x1 y1) (h2 : On d x2 y2) :
    (y1 + y2) * (y1 + y2) * ((1 - d * x1 * x2 * y1 * y2) - (y1 * y2 + x1 * x2)) * ((1 + d * x1 * x2 * y1 * y2) - (y1 * y2 - x1 * x2)) =
    (y2 - y1) * (y2 - y1) * ((1 - d * x1 * x2 * y1 * y2) + (y1 * y2 + x1 * x2)) * ((1 + d * x1 * x2 * y1 * y2) + (y1 * y2 - x1 * x2)) := by
  unfold On at h1 h2; grobner
theorem Rp.sum {P R D : Pt} {X Z X' Z' u : FF} (hP : P.on) (hR : R.on) (hD : D = R.add P.neg) (hu : u * (1 - D.y) = 1 + D.y) (hu0 : u ≠ 0) (h : Rp P X Z) (h' : Rp R X' Z') :
    Rp (P.add R) (((X' - Z') * (X + Z) + (X' + Z') * (X - Z)) * ((X' - Z') * (X + Z) + (X' + Z') * (X - Z))) (u * (((X' - Z') * (X + Z) - (X' + Z') * (X - Z)) * ((X' - Z') * (X + Z) - (X' + Z') * (X - Z)))) := by
  unfold Rp
  have c1 := complete hP hR
  have s1 := (Pt.add_is hP hR).2
  have s2 := (Pt.add_is hR (Pt.neg_on hP)).2
  rw [← hD] at s2
  have e2 : D.y * (1 + dd * P.x * R.x * P.y * R.y) = P.y * R.y - P.x * R.x := by
    generalize D.y = yd at *
    unfold Pt.neg at s2
    dsimp only at s2
    clear hu hu0 h h' c1 s1
    grobner
  have hdf := diff_of dd P.x P.y R.x R.y hP hR
  rw [← s1, ← e2] at hdf
  clear s2 hD
  have hP' : On dd P.x P.y := hP
  have hR' : On dd R.x R.y := hR
  unfold On at hP' hR'
  obtain ⟨hr, hn⟩ := h
  obtain ⟨hr', hn'⟩ := h'
  rw [hr, hr']
  generalize (P.add R).y = y3 at *
  generalize D.y = yd at *
  have k1 : (P.y + R.y) * (P.y + R.y) * (1 - y3) * (1 - yd) = (R.y - P.y) * (R.y - P.y) * (1 + y3) * (1 + yd) := by
    refine FF_cancel (FF_mul_nz c1.1 c1.2) ?_
    generalize 1 + dd * P.x * R.x * P.y * R.y = p at *
    generalize 1 - dd * P.x * R.x * P.y * R.y = m at *
    clear s1 e2 c1 hP' hR' hr hr'
    grobner
  have hyd : 1 - yd ≠ 0 := fun hz => by
    have : (2 : FF) = 0 := by
      clear k1 hdf e2 s1 hP' hR' hr hr'
      grobner
    exact absurd this (by decide +kernel)
  have k2 : (P.y + R.y) * (P.y + R.y) * (1 - y3) = u * ((R.y - P.y) * (R.y - P.y)) * (1 + y3) := by
    refine FF_cancel hyd ?_
    rw [← hu] at k1
    generalize 1 - yd = q at *
    clear s1 e2 c1 hP' hR' hr hr' hdf hu
    grobner
  generalize X + Z = A at *
  generalize X' + Z' = C at *
  have k3 : (C * R.y * A + C * (A * P.y)) * (C * R.y * A + C * (A * P.y)) - u * ((C * R.y * A - C * (A * P.y)) * (C * R.y * A - C * (A * P.y))) =
      ((C * R.y * A + C * (A * P.y)) * (C * R.y * A + C * (A * P.y)) + u * ((C * R.y * A - C * (A * P.y)) * (C * R.y * A - C * (A * P.y)))) * y3 := by
    clear s1 e2 c1 hP' hR' hr hr' hdf hu k1
    grobner
  refine ⟨k3, fun hz => ?_⟩
  rw [hz] at k3
  have ka : (C * R.y * A + C * (A * P.y)) * (C * R.y * A + C * (A * P.y)) = 0 := by
    refine FF_two ?_
    generalize (C * R.y * A + C * (A * P.y)) * (C * R.y * A + C * (A * P.y)) = s at *
    generalize u * ((C * R.y * A - C * (A * P.y)) * (C * R.y * A - C * (A * P.y))) = t at *
    clear s1 e2 c1 hP' hR' hr hr' hdf hu k1 k2
    grobner
  rw [ka] at hz
  have hnn := FF_mul_nz hn' hn
  have kb : P.y + R.y = 0 := by
    have : C * A * (P.y + R.y) = 0 := by
      have h0 : C * R.y * A + C * (A * P.y) = 0 := by rcases FF_mul ka with h | h <;> exact h
      rw [← h0]
      clear s1 e2 c1 hP' hR' hr hr' hdf hu k1 k2 k3 ka hz
      grobner
    rcases FF_mul this with h | h
    · exact absurd h hnn
    · exact h
  have kc : R.y - P.y = 0 := by
    have h1 : u * ((C * A * (R.y - P.y)) * (C * A * (R.y - P.y))) = 0 := by
      clear s1 e2 c1 hP' hR' hr hr' hdf hu k1 k2 k3 ka kb
      grobner
    rcases FF_mul h1 with h | h
    · exact absurd h hu0
    · have h2 : C * A * (R.y - P.y) = 0 := by rcases FF_mul h with h | h <;> exact h
      rcases FF_mul h2 with h | h
      · exact absurd h hnn
      · exact h
  have kr : R.y = 0 := FF_two (by clear s1 e2 c1 hP' hR' hr hr' hdf hu k1 k2 k3 ka hz; grobner)
  have kp : P.y = 0 := by rw [kr] at kb; clear s1 e2 c1 hP' hR' hr hr' hdf hu k1 k2 k3 ka hz kc; grobner
  rw [kp, kr] at e2
  rw [kp] at hP'
  rw [kr] at hR'
  have hyy : yd * yd = 1 := by
    clear s1 c1 hr hr' hdf hu k1 k2 k3 ka hz kc kb kr kp
    generalize P.x = x1 at *
    generalize R.x = x2 at *
    grobner
  have : u * 2 = 0 := by
    have hq : (1 - yd) * (1 + yd) = 0 := by clear s1 e2 c1 hP' hR' hr hr' hdf hu k1 k2 k3 ka hz kc kb kr kp; grobner
    rcases FF_mul hq with h | h
    · exact absurd h hyd
    · clear s1 e2 c1 hP' hR' hr hr' hdf k1 k2 k3 ka hz kc kb kr kp
      grobner
  rcases FF_mul this with h | h
  · exact hu0 h
  · exact absurd h (by decide +kernel)
end
section
set_option linter.unusedVariables false
set_option linter.unusedSimpArgs false
set_option exponentiation.threshold 600
/-- The ladder's four numbers. -/
structure Ld where
  x2 : FF
  z2 : FF
  x3 : FF
  z3 : FF
deriving DecidableEq
def Ld.swap (s : Ld) : Ld := ⟨s.x3, s.z3, s.x2, s.z2⟩
def lA (x z : FF) : FF := (x + z) * (x + z)
def lB (x z : FF) : FF := (x - z) * (x - z)
def lE (x z : FF) : FF := lA x z - lB x z
def lX2 (x z : FF) : FF := lA x z * lB x z
def lZ2 (x z : FF) : FF := lE x z * (lA x z + 121665 * lE x z)
def lS (x z x' z' : FF) : FF := (x' - z') * (x + z) + (x' + z') * (x - z)
def lD (x z x' z' : FF) : FF := (x' - z') * (x + z) - (x' + z') * (x - z)
def Ld.core (u : FF) (s : Ld) : Ld := ⟨lX2 s.x2 s.z2, lZ2 s.x2 s.z2, lS s.x2 s.z2 s.x3 s.z3 * lS s.x2 s.z2 s.x3 s.z3, u * (lD s.x2 s.z2 s.x3 s.z3 * lD s.x2 s.z2 s.x3 s.z3)⟩
def Ld.step (u : FF) (b : Bool) (s : Ld) : Ld := if b then (s.swap.core u).swap else s.core u
/-- j steps, of the bits from 254 on down. -/
def lad (u : FF) (k : Nat) : Nat → Ld
  | 0 => ⟨1, 0, u, 1⟩
  | j + 1 => (lad u k j).step u (k / 2 ^ (254 - j) % 2 == 1)
/-- What the ladder tells. -/
def ladOut (u : FF) (k : Nat) : FF := (lad u k 255).x2 * FI (lad u k 255).z2
theorem FI_val (a : FF) : (FI a).val = a.val ^ (pp - 2) % pp := rfl
theorem FI_zero : FI 0 = 0 := by
  have h0 : (0 : FF).val = 0 := by decide +kernel
  refine Fin.ext ?_
  rw [FI_val, h0, Nat.zero_pow (Nat.sub_pos_of_lt (by rw [pp_def]; decide +kernel)), Nat.zero_mod]
def uOf (P : Pt) : FF := (1 + P.y) * FI (1 - P.y)
theorem Pt.neg_sum {P R : Pt} : (P.add R).neg = P.neg.add R.neg := by
  unfold Pt.add Pt.neg
  dsimp only
  rw [show dd * -P.x * -R.x * P.y * R.y = dd * P.x * R.x * P.y * R.y by grobner, show -P.x * -R.x = P.x * R.x by grobner]
  refine Pt.ext' ?_ rfl
  dsimp only
  generalize FI (1 + dd * P.x * R.x * P.y * R.y) = i
  grobner
theorem Pt.add_zero {P : Pt} (h : P.on) : P.add Pt.zero = P := by rw [Pt.add_comm]; exact Pt.zero_add h
theorem Pt.back {P R : Pt} (hP : P.on) (hR : R.on) : (P.add R).add P.neg = R := by
  rw [Pt.add_comm P R, Pt.add_assoc hR hP (Pt.neg_on hP), Pt.add_comm P, Pt.neg_add hP, Pt.add_zero hR]
theorem Pt.back' {P R : Pt} (hP : P.on) (hR : R.on) : P.add (P.add R).neg = R.neg := by
  rw [Pt.neg_sum, ← Pt.add_assoc hP (Pt.neg_on hP) (Pt.neg_on hR), Pt.add_comm P, Pt.neg_add hP, Pt.zero_add (Pt.neg_on hR)]
/-- What holds of the four numbers: they tell m times and m + 1 times the point. -/
def LdIs (P : Pt) (m : Nat) (s : Ld) : Prop := Rp (Pt.times m P) s.x2 s.z2 ∧ Rp (Pt.times (m + 1) P) s.x3 s.z3
theorem times_dbl {P : Pt} (h : P.on) (m : Nat) : (Pt.times m P).add (Pt.times m P) = Pt.times (2 * m) P := by
  rw [← Pt.times_add h, Nat.two_mul]
theorem LdIs.core {P : Pt} {m : Nat} {s : Ld} {u : FF} (hP : P.on) (hu : u * (1 - P.y) = 1 + P.y) (hu0 : u ≠ 0) (h : LdIs P m s) : LdIs P (2 * m) (s.core u) := by
  obtain ⟨h1, h2⟩ := h
  have hm := Pt.times_on hP m
  have hm1 := Pt.times_on hP (m + 1)
  refine ⟨?_, ?_⟩
  · have := Rp.dbl hm h1
    rw [times_dbl hP] at this
    exact this
  · have hD : P = (Pt.times (m + 1) P).add (Pt.times m P).neg := (Pt.back hm hP).symm
    have := Rp.sum hm hm1 hD hu hu0 h1 h2
    rw [← Pt.times_add hP] at this
    have e : m + (m + 1) = 2 * m + 1 := by omega
    rw [e] at this
    exact this
theorem LdIs.core' {P : Pt} {m : Nat} {s : Ld} {u : FF} (hP : P.on) (hu : u * (1 - P.y) = 1 + P.y) (hu0 : u ≠ 0) (h : LdIs P m s) : LdIs P (2 * m + 1) ((s.swap.core u).swap) := by
  obtain ⟨h1, h2⟩ := h
  have hm := Pt.times_on hP m
  have hm1 := Pt.times_on hP (m + 1)
  refine ⟨?_, ?_⟩
  · have hD : P.neg = (Pt.times m P).add (Pt.times (m + 1) P).neg := (Pt.back' hm hP).symm
    have := Rp.sum hm1 hm hD hu hu0 h2 h1
    rw [← Pt.times_add hP] at this
    have e : m + 1 + m = 2 * m + 1 := by omega
    rw [e] at this
    exact this
  · have := Rp.dbl hm1 h2
    rw [times_dbl hP] at this
    have e : 2 * (m + 1) = 2 * m + 1 + 1 := by omega
    rw [e] at this
    exact this
theorem lad_is {P : Pt} {u : FF} (hP : P.on) (hu : u * (1 - P.y) = 1 + P.y) (hu0 : u ≠ 0) {k : Nat} (hk : k < 2 ^ 255) : ∀ j, j ≤ 255 → LdIs P (k / 2 ^ (255 - j)) (lad u k j)
  | 0, _ => by
    have e : k / 2 ^ (255 - 0) = 0 := Nat.div_eq_of_lt hk
    rw [e]
    refine ⟨⟨?_, ?_⟩, ⟨?_, ?_⟩⟩
    · show (1 : FF) - 0 = (1 + 0) * 1
      decide +kernel
    · show (1 : FF) + 0 ≠ 0
      decide +kernel
    · show u - 1 = (u + 1) * (Pt.zero.add P).y
      rw [Pt.zero_add hP]
      generalize P.y = y at *
      clear hu0 e hP
      grobner
    · show u + 1 ≠ 0
      intro h
      have : (2 : FF) = 0 := by
        generalize P.y = y at *
        clear hu0 e hP
        grobner
      exact absurd this (by decide +kernel)
  | j + 1, hj => by
    have hi := lad_is hP hu hu0 hk j (by omega)
    have e1 : 255 - j = (254 - j) + 1 := by omega
    have e2 : 255 - (j + 1) = 254 - j := by omega
    rw [e1, Nat.pow_succ, ← Nat.div_div_eq_div_mul] at hi
    rw [e2]
    show LdIs P (k / 2 ^ (254 - j)) ((lad u k j).step u (k / 2 ^ (254 - j) % 2 == 1))
    generalize k / 2 ^ (254 - j) = q at *
    generalize lad u k j = s at *
    have hq := Nat.div_add_mod q 2
    rcases Nat.mod_two_eq_zero_or_one q with h0 | h1
    · rw [h0] at hq ⊢
      have := hi.core hP hu hu0
      rw [Nat.add_zero] at hq
      rw [hq] at this
      exact this
    · rw [h1] at hq ⊢
      have := hi.core' hP hu hu0
      rw [hq] at this
      exact this
theorem Rp.out {P : Pt} {X Z : FF} (h : Rp P X Z) : X * FI Z = uOf P := by
  obtain ⟨h1, h2⟩ := h
  unfold uOf
  by_cases hz : Z = 0
  · rw [hz] at h1 h2 ⊢
    have hy : 1 - P.y = 0 := by
      have h3 : X ≠ 0 := fun h => h2 (by rw [h]; decide +kernel)
      refine FF_cancel (c := 0) h3 ?_
      generalize P.y = y at *
      clear h2 h3 hz
      grobner
    rw [hy, FI_zero]
    generalize P.y = y at *
    clear h1 h2 hz hy
    grobner
  · have hy : 1 - P.y ≠ 0 := fun hy => by
      have : Z + Z = 0 := by
        generalize P.y = y at *
        clear h2 hz
        grobner
      exact hz (FF_two this)
    have i1 := FF_inv hz
    have i2 := FF_inv hy
    generalize FI Z = i at *
    generalize FI (1 - P.y) = j at *
    generalize P.y = y at *
    clear hz hy h2
    grobner
theorem ladOut_is {P : Pt} {u : FF} (hP : P.on) (hu : u * (1 - P.y) = 1 + P.y) (hu0 : u ≠ 0) {k : Nat} (hk : k < 2 ^ 255) : ladOut u k = uOf (Pt.times k P) := by
  have h := (lad_is hP hu hu0 hk 255 (Nat.le_refl _)).1
  rw [Nat.sub_self, Nat.pow_zero, Nat.div_one] at h
  exact h.out
/-- Of the point 0 it tells 0. -/
theorem core_zero (s : Ld) (h : s.x2 * s.z2 = 0) : (s.core 0).z2 = 0 ∧ (s.core 0).z3 = 0 := by
  obtain ⟨x2, z2, x3, z3⟩ := s
  dsimp only at h
  refine ⟨?_, ?_⟩
  · show lE x2 z2 * (lA x2 z2 + 121665 * lE x2 z2) = 0
    have : lE x2 z2 = 0 := by
      unfold lE lA lB
      grobner
    rw [this]
    generalize lA x2 z2 + 121665 * 0 = q
    grobner
  · show 0 * (lD x2 z2 x3 z3 * lD x2 z2 x3 z3) = 0
    generalize lD x2 z2 x3 z3 * lD x2 z2 x3 z3 = q
    grobner
theorem lad_zero (k : Nat) : ∀ j, (lad 0 k j).x2 * (lad 0 k j).z2 = 0 ∧ (lad 0 k j).x3 * (lad 0 k j).z3 = 0 ∧ (0 < j → (lad 0 k j).z2 = 0)
  | 0 => ⟨by show (1 : FF) * 0 = 0; decide +kernel, by show (0 : FF) * 1 = 0; decide +kernel, fun h => absurd h (by omega)⟩
  | j + 1 => by
    obtain ⟨h1, h2, -⟩ := lad_zero k j
    have m0 : ∀ a : FF, a * 0 = 0 := fun a => by grobner
    show ((lad 0 k j).step 0 _).x2 * _ = 0 ∧ _
    simp only [lad]
    unfold Ld.step
    split
    · have h := core_zero (lad 0 k j).swap h2
      refine ⟨?_, ?_, fun _ => h.2⟩
      · show _ * ((lad 0 k j).swap.core 0).z3 = 0
        rw [h.2, m0]
      · show _ * ((lad 0 k j).swap.core 0).z2 = 0
        rw [h.1, m0]
    · have h := core_zero (lad 0 k j) h1
      refine ⟨?_, ?_, fun _ => h.1⟩
      · rw [h.1, m0]
      · rw [h.2, m0]
theorem ladOut_zero (k : Nat) : ladOut 0 k = 0 := by
  unfold ladOut
  rw [(lad_zero k 255).2.2 (by omega), FI_zero]
  generalize (lad 0 k 255).x2 = a
  grobner
theorem uOf_zero_pt : uOf Pt.zero = 0 := by
  unfold uOf Pt.zero
  dsimp only
  rw [show (1 : FF) - 1 = 0 by decide +kernel, FI_zero]
  decide +kernel
theorem times_zero_pt : ∀ n, Pt.times n Pt.zero = Pt.zero
  | 0 => rfl
  | n + 1 => by
    show (Pt.times n Pt.zero).add Pt.zero = Pt.zero
    rw [times_zero_pt n, Pt.zero_add Pt.zero_on]
/-- Whose u is 0: twice the point is nothing. -/
theorem twice_of {P : Pt} (hP : P.on) (h : uOf P = 0) : P.add P = Pt.zero := by
  have hy : P.y * P.y = 1 := by
    unfold uOf at h
    rcases FF_mul h with h | h
    · generalize P.y = y at *
      clear hP
      grobner
    · have h0 : 1 - P.y = 0 := by
        refine Classical.byContradiction fun hn => ?_
        have := FF_inv hn
        rw [h] at this
        exact absurd this (by
          intro e
          have : (1 : FF) = 0 := by
            generalize P.y = y at *
            clear hP hn h
            grobner
          exact absurd this (by decide +kernel))
      generalize P.y = y at *
      clear hP h
      grobner
  have hx : P.x = 0 := by
    have h1 : (dd + 1) * (P.x * P.x) = 0 := by
      unfold Pt.on On at hP
      generalize P.y = y at *
      generalize P.x = x at *
      generalize dd = d at *
      clear h
      grobner
    rcases FF_mul h1 with h | h
    · exact absurd h (by decide +kernel)
    · rcases FF_mul h with h | h <;> exact h
  have ha := Pt.add_is hP hP
  refine Pt.ext' ?_ ?_
  · have h1 := ha.1
    rw [hx] at h1
    generalize (P.add P).x = a at *
    show a = 0
    generalize P.y = y at *
    generalize dd = d at *
    clear ha hP h
    grobner
  · have h1 := ha.2
    rw [hx] at h1
    generalize (P.add P).y = a at *
    show a = 1
    generalize P.y = y at *
    generalize dd = d at *
    clear ha hP h
    grobner
theorem times_even {P : Pt} (hP : P.on) (h : uOf P = 0) (k : Nat) (hk : k % 2 = 0) : uOf (Pt.times k P) = 0 := by
  have e : k = (k / 2) * 2 := by omega
  rw [e, Pt.times_times hP]
  have e2 : Pt.times 2 P = P.add P := by
    show (Pt.zero.add P).add P = _
    rw [Pt.zero_add hP]
  rw [e2, twice_of hP h, times_zero_pt, uOf_zero_pt]
theorem uOf_eq {P : Pt} (h : uOf P ≠ 0) : uOf P * (1 - P.y) = 1 + P.y := by
  unfold uOf at *
  have h0 : 1 - P.y ≠ 0 := fun h0 => h (by rw [h0, FI_zero]; generalize 1 + P.y = a; grobner)
  have h1 := FF_inv h0
  generalize FI (1 - P.y) = i at *
  generalize P.y = y at *
  clear h h0
  grobner
/-- THE LADDER over any point of the curve, of an even number. -/
theorem ladOut_pt {P : Pt} (hP : P.on) {k : Nat} (hk : k < 2 ^ 255) (h2 : k % 2 = 0) : ladOut (uOf P) k = uOf (Pt.times k P) := by
  by_cases h : uOf P = 0
  · rw [h, ladOut_zero, times_even hP h k h2]
  · exact ladOut_is hP (uOf_eq h) h hk
/-- The base. -/
def Gb : Pt := ⟨15112221349535400772501151409588531511454012693041857206046113283949847762202, 46316835694926478169428394003475163141307993866256225615783033603165251855960⟩
theorem Gb_on : Gb.on := by unfold Pt.on On Gb; decide +kernel
theorem Gb_u : uOf Gb = 9 := by
  have h : uOf Gb ≠ 0 ∨ True := Or.inr trivial
  unfold uOf
  have h0 : 1 - Gb.y ≠ 0 := by unfold Gb; decide +kernel
  have h1 := FF_inv h0
  have h2 : 1 + Gb.y = 9 * (1 - Gb.y) := by unfold Gb; decide +kernel
  rw [h2]
  generalize FI (1 - Gb.y) = i at *
  generalize 1 - Gb.y = d at *
  clear h h0 h2
  grobner
/-- Two have one secret. -/
theorem share {a b : Nat} (ha : a < 2 ^ 255) (hb : b < 2 ^ 255) (ha2 : a % 2 = 0) (hb2 : b % 2 = 0) : ladOut (ladOut 9 b) a = ladOut (ladOut 9 a) b := by
  rw [← Gb_u, ladOut_pt Gb_on ha ha2, ladOut_pt Gb_on hb hb2, ladOut_pt (Pt.times_on Gb_on b) ha ha2, ladOut_pt (Pt.times_on Gb_on a) hb hb2, Pt.times_swap Gb_on]
end
section
set_option linter.unusedVariables false
set_option exponentiation.threshold 600
end
end Go.Proofs.YtpkmidaflnbobaaGreatDoor
end
