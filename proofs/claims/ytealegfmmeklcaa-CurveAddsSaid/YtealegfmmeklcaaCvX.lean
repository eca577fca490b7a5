/-
  Points by four numbers (x Z, y Z, Z, x y Z): a sum without a quotient: plain.
-/
import Derived.Test.YtealegfmmeklcaaCvP
namespace Go.Proofs.Ytealegfmmeklcaa
set_option linter.unusedVariables false
set_option linter.unusedSimpArgs false

/-- Four numbers tell a point. -/
structure Ex4 (X Y Z T : FF) (P : Pt) : Prop where
  nz : Z ≠ 0
  x : X = P.x * Z
  y : Y = P.y * Z
  t : T = P.x * P.y * Z
theorem FF_nz {a b : FF} (ha : a ≠ 0) (hb : b ≠ 0) : a * b ≠ 0 := fun h => by
  rcases FF_mul h with h | h
  · exact ha h
  · exact hb h
theorem two_nz : (2 : FF) ≠ 0 := by decide +kernel
theorem ex_zero : Ex4 0 1 1 0 Pt.zero := ⟨by decide +kernel, by decide +kernel, by decide +kernel, by decide +kernel⟩
theorem ex_at (P : Pt) : Ex4 P.x P.y 1 (P.x * P.y) P := ⟨by decide +kernel, by generalize P.x = x; grobner, by generalize P.y = y; grobner, by generalize P.x = x; generalize P.y = y; grobner⟩
theorem ex_neg {X Y Z T : FF} {P : Pt} (h : Ex4 X Y Z T P) : Ex4 (-X) Y Z (-T) P.neg := by
  obtain ⟨hz, hx, hy, ht⟩ := h
  refine ⟨hz, ?_, hy, ?_⟩
  · show -X = -P.x * Z
    generalize P.x = x at *
    grobner
  · show -T = -P.x * P.y * Z
    generalize P.x = x at *
    generalize P.y = y at *
    grobner
theorem ex_sum {d x1 y1 x2 y2 x3 y3 Z1 Z2 : FF} (hx : x3 * (1 + d * x1 * x2 * y1 * y2) = x1 * y2 + x2 * y1) (hy : y3 * (1 - d * x1 * x2 * y1 * y2) = y1 * y2 + x1 * x2) {E F G H : FF}
    (hE : E = 2 * (Z1 * Z2) * (x1 * y2 + x2 * y1)) (hF : F = 2 * (Z1 * Z2) * (1 - d * x1 * x2 * y1 * y2)) (hG : G = 2 * (Z1 * Z2) * (1 + d * x1 * x2 * y1 * y2)) (hH : H = 2 * (Z1 * Z2) * (y1 * y2 + x1 * x2)) :
    E * F = x3 * (F * G) ∧ G * H = y3 * (F * G) ∧ E * H = x3 * y3 * (F * G) := by
  rw [← hx] at hE
  rw [← hy] at hH
  generalize 1 + d * x1 * x2 * y1 * y2 = n at *
  generalize 1 - d * x1 * x2 * y1 * y2 = m at *
  clear hx hy
  subst hE; subst hF; subst hG; subst hH
  exact ⟨by grobner, by grobner, by grobner⟩
/-- The sum, as it is reckoned from the differences and sums of both. -/
theorem ex_add {X1 Y1 Z1 T1 X2 Y2 Z2 T2 : FF} {P R : Pt} (h1 : Ex4 X1 Y1 Z1 T1 P) (h2 : Ex4 X2 Y2 Z2 T2 R) (hP : P.on) (hR : R.on) {A B C D E F G H : FF}
    (hA : A = (Y1 - X1) * (Y2 - X2)) (hB : B = (Y1 + X1) * (Y2 + X2)) (hC : C = 2 * dd * (T1 * T2)) (hD : D = 2 * (Z1 * Z2)) (hE : E = B - A) (hF : F = D - C) (hG : G = D + C) (hH : H = B + A) :
    Ex4 (E * F) (G * H) (F * G) (E * H) (P.add R) := by
  obtain ⟨hz1, hx1, hy1, ht1⟩ := h1
  obtain ⟨hz2, hx2, hy2, ht2⟩ := h2
  have hc := complete hP hR
  have hs := Pt.add_is hP hR
  have e1 : E = 2 * (Z1 * Z2) * (P.x * R.y + R.x * P.y) := by
    rw [hE, hB, hA, hx1, hy1, hx2, hy2]
    generalize P.x = a; generalize P.y = b; generalize R.x = c; generalize R.y = e
    clear hc hs hE hF hG hH hA hB hC hD hx1 hy1 ht1 hx2 hy2 ht2 hz1 hz2 hP hR
    grobner
  have e4 : H = 2 * (Z1 * Z2) * (P.y * R.y + P.x * R.x) := by
    rw [hH, hB, hA, hx1, hy1, hx2, hy2]
    generalize P.x = a; generalize P.y = b; generalize R.x = c; generalize R.y = e
    clear hc hs hE hF hG hH hA hB hC hD hx1 hy1 ht1 hx2 hy2 ht2 hz1 hz2 hP hR e1
    grobner
  have e2 : F = 2 * (Z1 * Z2) * (1 - dd * P.x * R.x * P.y * R.y) := by
    rw [hF, hD, hC, ht1, ht2]
    generalize dd = d; generalize P.x = a; generalize P.y = b; generalize R.x = c; generalize R.y = e
    clear hc hs hE hF hG hH hA hB hC hD hx1 hy1 ht1 hx2 hy2 ht2 hz1 hz2 hP hR e1 e4
    grobner
  have e3 : G = 2 * (Z1 * Z2) * (1 + dd * P.x * R.x * P.y * R.y) := by
    rw [hG, hD, hC, ht1, ht2]
    generalize dd = d; generalize P.x = a; generalize P.y = b; generalize R.x = c; generalize R.y = e
    clear hc hs hE hF hG hH hA hB hC hD hx1 hy1 ht1 hx2 hy2 ht2 hz1 hz2 hP hR e1 e2 e4
    grobner
  have hzz := FF_nz two_nz (FF_nz hz1 hz2)
  have hF0 : F ≠ 0 := by rw [e2]; exact FF_nz hzz hc.2
  have hG0 : G ≠ 0 := by rw [e3]; exact FF_nz hzz hc.1
  obtain ⟨r1, r2, r3⟩ := ex_sum hs.1 hs.2 e1 e2 e3 e4
  exact ⟨FF_nz hF0 hG0, r1, r2, r3⟩
/-- Two fours of one point. -/
theorem ex_same {X1 Y1 Z1 T1 X2 Y2 Z2 T2 : FF} {P R : Pt} (h1 : Ex4 X1 Y1 Z1 T1 P) (h2 : Ex4 X2 Y2 Z2 T2 R) : (X1 * Z2 = X2 * Z1 ∧ Y1 * Z2 = Y2 * Z1) ↔ P = R := by
  obtain ⟨hz1, hx1, hy1, ht1⟩ := h1
  obtain ⟨hz2, hx2, hy2, ht2⟩ := h2
  have hzz := FF_nz hz1 hz2
  constructor
  · rintro ⟨a, b⟩
    refine Pt.ext' (FF_cancel hzz ?_) (FF_cancel hzz ?_)
    · rw [hx1, hx2] at a
      generalize P.x = p at *; generalize R.x = r at *
      clear hx1 hx2 hy1 hy2 ht1 ht2 b hz1 hz2 hzz
      grobner
    · rw [hy1, hy2] at b
      generalize P.y = p at *; generalize R.y = r at *
      clear hx1 hx2 hy1 hy2 ht1 ht2 a hz1 hz2 hzz
      grobner
  · rintro rfl
    rw [hx1, hx2, hy1, hy2]
    generalize P.x = p; generalize P.y = r
    clear hx1 hx2 hy1 hy2 ht1 ht2 hz1 hz2 hzz
    exact ⟨by grobner, by grobner⟩
/-- The square of the x that goes with y. -/
def sqX (y : FF) : FF := (y * y - 1) * FI (dd * (y * y) + 1)
/-- The square of a point's x. -/
theorem sqX_pt {p : Pt} (h : p.on) : sqX p.y = p.x * p.x := by
  have hn := den_nz p h
  have hi := FF_inv hn
  unfold sqX
  unfold Pt.on On at h
  generalize FI (dd * (p.y * p.y) + 1) = i at *
  generalize dd = d at *
  generalize p.x = x at *
  generalize p.y = y at *
  clear hn
  grobner
/-- A square's x makes a point. -/
theorem pt_sqX {x y : FF} (h : x * x = sqX y) (hn : dd * (y * y) + 1 ≠ 0) : (⟨x, y⟩ : Pt).on := by
  have hi := FF_inv hn
  unfold sqX at h
  show On dd x y
  unfold On
  generalize FI (dd * (y * y) + 1) = i at *
  generalize dd = d at *
  clear hn
  grobner

theorem m1_sq : (19681161376707505956807079304988542015446066515923890162744021073123829784752 : FF) * 19681161376707505956807079304988542015446066515923890162744021073123829784752 = -1 := by decide +kernel
/-- What stands under the square is never 0. -/
theorem den_all (y : FF) : dd * (y * y) + 1 ≠ 0 := fun hz => by
  have h1 : (19681161376707505956807079304988542015446066515923890162744021073123829784752 : FF) * 19681161376707505956807079304988542015446066515923890162744021073123829784752 = dd * (y * y) := by
    rw [m1_sq]
    generalize dd * (y * y) = a at *
    grobner
  have h2 := dd_no h1
  rw [h2] at hz
  revert hz
  decide +kernel

/-! The sums as they are reckoned. -/
theorem ex_and {X Y Z T l m p A B C D q1 q2 q3 q4 : FF} {P R : Pt} (h : Ex4 X Y Z T P) (hP : P.on) (hR : R.on) (hl : l = R.y - R.x) (hm : m = R.y + R.x) (hp : p = (dd + dd) * R.x * R.y)
    (hA : A = (Y - X) * l) (hB : B = (Y + X) * m) (hD : D = Z + Z) (hC : C = T * p) (h1 : q1 = (B - A) * (D - C)) (h2 : q2 = (B + A) * (D + C)) (h3 : q3 = (D + C) * (D - C)) (h4 : q4 = (B - A) * (B + A)) : Ex4 q1 q2 q3 q4 (P.add R) := by
  have e := ex_add h (ex_at R) hP hR (A := A) (B := B) (C := C) (D := D) (by rw [hA, hl]) (by rw [hB, hm])
    (by rw [hC, hp]; generalize dd = d; generalize R.x = a; generalize R.y = b; grobner) (by rw [hD]; grobner) rfl rfl rfl rfl
  have e2 : (D + C) * (B + A) = q2 := by rw [h2]; grobner
  have e3 : (D - C) * (D + C) = q3 := by rw [h3]; grobner
  rw [← h1, e2, e3, ← h4] at e
  exact e
theorem twice_num {x y Z n m u v F : FF} (hu : u * n = x * y + x * y) (hv : v * m = y * y + x * x) (hF : F = Z * Z * n * (Z * Z * m)) :
    (x * y + x * y) * (Z * Z) * (Z * Z * m) = u * F ∧ (y * y + x * x) * (Z * Z) * (Z * Z * n) = v * F ∧ (x * y + x * y) * (Z * Z) * ((y * y + x * x) * (Z * Z)) = u * v * F := by
  rw [← hu, ← hv]
  subst hF
  clear hu hv
  exact ⟨by grobner, by grobner, by grobner⟩
theorem ex_twice {X Y Z T A B C S D q1 q2 q3 q4 : FF} {P : Pt} (h : Ex4 X Y Z T P) (hP : P.on) (hA : A = X * X) (hB : B = Y * Y) (hC : C = Z * Z) (hS : S = B + A) (hD : D = B - A)
    (h1 : q1 = ((X + Y) * (X + Y) - S) * (C + C - D)) (h2 : q2 = S * D) (h3 : q3 = D * (C + C - D)) (h4 : q4 = ((X + Y) * (X + Y) - S) * S) : Ex4 q1 q2 q3 q4 (P.add P) := by
  obtain ⟨hz, hx, hy, ht⟩ := h
  have hc := complete hP hP
  have hs := Pt.add_is hP hP
  unfold Pt.on On at hP
  have eD : D = Z * Z * (1 + dd * P.x * P.x * P.y * P.y) := by
    rw [hD, hB, hA, hx, hy, hP]
    generalize P.x = x; generalize P.y = y
    clear hc hs hP h1 h2 h3 h4 hA hB hC hS hD hx hy ht hz
    grobner
  have eF : C + C - D = Z * Z * (1 - dd * P.x * P.x * P.y * P.y) := by
    rw [eD, hC]
    generalize dd * P.x * P.x * P.y * P.y = k
    clear hc hs hP h1 h2 h3 h4 hA hB hC hS hD hx hy ht hz eD
    grobner
  have eE : (X + Y) * (X + Y) - S = (P.x * P.y + P.x * P.y) * (Z * Z) := by
    rw [hS, hB, hA, hx, hy]
    generalize P.x = x; generalize P.y = y
    clear hc hs hP h1 h2 h3 h4 hA hB hC hS hD hx hy ht hz eD eF
    grobner
  have eS : S = (P.y * P.y + P.x * P.x) * (Z * Z) := by
    rw [hS, hB, hA, hx, hy]
    generalize P.x = x; generalize P.y = y
    clear hc hs hP h1 h2 h3 h4 hA hB hC hS hD hx hy ht hz eD eF eE
    grobner
  rw [eE, eF] at h1
  rw [eS, eD] at h2
  rw [eF, eD] at h3
  rw [eE, eS] at h4
  have hzz := FF_nz hz hz
  obtain ⟨r1, r2, r3⟩ := twice_num hs.1 hs.2 h3
  refine ⟨?_, by rw [h1, r1], by rw [h2, r2], by rw [h4, r3]⟩
  rw [h3]
  exact FF_nz (FF_nz hzz hc.1) (FF_nz hzz hc.2)
theorem ex_point {X Y Z T : FF} {P : Pt} (h : Ex4 X Y Z T P) : X * FI Z = P.x ∧ Y * FI Z = P.y := by
  have hi := FF_inv h.nz
  rw [h.x, h.y]
  generalize FI Z = i at *
  generalize P.x = x; generalize P.y = y
  exact ⟨by grobner, by grobner⟩
end Go.Proofs.Ytealegfmmeklcaa
