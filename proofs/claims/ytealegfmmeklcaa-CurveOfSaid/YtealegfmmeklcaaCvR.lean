/-
  The x that goes with a y: plain.
-/
import Derived.Test.YtealegfmmeklcaaCvP
import Derived.Test.YtealegfmmeklcaaRef09
namespace Go.Proofs.Ytealegfmmeklcaa
set_option linter.unusedVariables false
set_option linter.unusedSimpArgs false
set_option exponentiation.threshold 600

theorem FF_sq_val (r : FF) : (r * r).val = r.val * r.val % pp := Fin.val_mul r r
theorem FF_val_mul (r t : FF) : (r * t).val = r.val * t.val % pp := Fin.val_mul r t
/-- Where there is a root, and where not. -/
theorem root_ex {s : FF} (h : half s.val = 0 ∨ half s.val = 1) : ∃ r : FF, r * r = s := by
  refine ⟨⟨rt2 s.val, rt2_lt _⟩, Fin.ext ?_⟩
  rw [FF_sq_val]
  exact rt_found s.isLt h
theorem half_root {r : FF} (h0 : r ≠ 0) : half (r * r).val = 1 := by
  unfold half
  rw [FF_sq_val, ← Nat.pow_mod, ← Nat.pow_two, ← Nat.pow_mul, show 2 * ((pp - 1) / 2) = pp - 1 by decide +kernel]
  exact pp_pr.fermat' (pp_not_dvd r.isLt fun h => h0 (Fin.ext h))
theorem sq_zero {r : FF} (h : r * r = 0) : r = 0 := by
  rcases FF_mul h with h | h <;> exact h
theorem half_null : half (0 : FF).val = 0 := half_zero rfl
theorem FF_neg_odd {r : FF} (h : r ≠ 0) : (-r).val % 2 = 1 - r.val % 2 := by
  rw [FF_negv r h]
  have h1 := r.isLt
  have h0 : r.val ≠ 0 := fun e => h (Fin.ext e)
  omega
theorem FF_neg_sq (r : FF) : -r * -r = r * r := by grobner
/-- The y of bytes: all but the highest bit. -/
def lowY (xs : List UInt8) : Nat := leN xs % 57896044618658097711785492504343953926634992332820282019728792003956564819968
theorem leN_two {a : List UInt8} {z : UInt8} (ha : a.length = 31) : leN (a ++ [z]) = leN a + 452312848583266388373324160190187140051835877600158453279131187530910662656 * z.toNat ∧ leN a < 452312848583266388373324160190187140051835877600158453279131187530910662656 := by
  have e : (256 : Nat) ^ 31 = 452312848583266388373324160190187140051835877600158453279131187530910662656 := by decide +kernel
  have h := leN_lt a
  rw [ha, e] at h
  rw [leN_snoc, ha, e]
  exact ⟨rfl, h⟩
theorem low_num {a : List UInt8} {z : UInt8} (ha : a.length = 31) : leN (a ++ [UInt8.ofNat (z.toNat % 128)]) = lowY (a ++ [z]) := by
  obtain ⟨h1, h2⟩ := leN_two (z := z) ha
  rw [(leN_two (z := UInt8.ofNat (z.toNat % 128)) ha).1]
  unfold lowY
  rw [h1, UInt8.toNat_ofNat']
  omega
theorem high_bit {a : List UInt8} {z : UInt8} (ha : a.length = 31) : leN (a ++ [z]) = lowY (a ++ [z]) + (if 128 ≤ z.toNat then 1 else 0) * 57896044618658097711785492504343953926634992332820282019728792003956564819968 := by
  obtain ⟨h1, h2⟩ := leN_two (z := z) ha
  have hz := z.toNat_lt
  unfold lowY
  split <;> omega
/-- What tells whether bytes are of a point. -/
def wantP (s : FF) (z : UInt8) : Prop := (s = 0 ∧ z.toNat < 128) ∨ (s ≠ 0 ∧ half s.val = 1)
theorem pB_of {a : List UInt8} {z : UInt8} (ha : a.length = 31) {x y : FF} (hy : y.val = lowY (a ++ [z])) (hx : x.val % 2 = if 128 ≤ z.toNat then 1 else 0) : pB ⟨x, y⟩ = a ++ [z] := by
  show leB 32 (y.val + x.val % 2 * 57896044618658097711785492504343953926634992332820282019728792003956564819968) = a ++ [z]
  rw [hx, hy, ← high_bit ha]
  have h := leB_leN (a ++ [z])
  rw [show (a ++ [z]).length = 32 by simp [ha]] at h
  exact h
theorem pt_bits {a : List UInt8} {z : UInt8} (ha : a.length = 31) {p : Pt} (h : pB p = a ++ [z]) : p.y.val = lowY (a ++ [z]) ∧ p.x.val % 2 = if 128 ≤ z.toNat then 1 else 0 := by
  have h1 := congrArg leN h
  rw [show leN (pB p) = _ from ptBytes_num p.x p.y, high_bit ha] at h1
  have h2 := FF_255 p.y
  have h3 : lowY (a ++ [z]) < 57896044618658097711785492504343953926634992332820282019728792003956564819968 := Nat.mod_lt _ (by decide +kernel)
  have h4 : p.x.val % 2 < 2 := Nat.mod_lt _ (by omega)
  generalize p.x.val % 2 = b at *
  generalize lowY (a ++ [z]) = Y at *
  have h5 : (if 128 ≤ z.toNat then 1 else 0) = 0 ∨ (if 128 ≤ z.toNat then 1 else 0) = 1 := by split <;> simp
  generalize (if 128 ≤ z.toNat then 1 else 0) = c at *
  have hb : b = 0 ∨ b = 1 := by omega
  rcases h5 with rfl | rfl <;> rcases hb with rfl | rfl <;> exact ⟨by omega, by omega⟩
theorem ptOf_far {a : List UInt8} {z : UInt8} (ha : a.length = 31) (h : ¬ lowY (a ++ [z]) < pp) : ptOf (a ++ [z]) = none := by
  cases hp : ptOf (a ++ [z]) with
  | none => rfl
  | some p =>
    exfalso
    have h1 := (pt_bits ha (ptOf_some hp).2).1
    have h2 := p.y.isLt
    rw [h1] at h2
    exact h h2
theorem ptOf_want {a : List UInt8} {z : UInt8} (ha : a.length = 31) {y : FF} (hy : y.val = lowY (a ++ [z])) : (ptOf (a ++ [z])).isSome = true ↔ wantP (sqX y) z := by
  constructor
  · intro h
    obtain ⟨p, hp⟩ := Option.isSome_iff_exists.1 h
    obtain ⟨hon, hb⟩ := ptOf_some hp
    obtain ⟨h1, h2⟩ := pt_bits ha hb
    have hyy : y = p.y := Fin.ext (hy.trans h1.symm)
    rw [hyy, sqX_pt hon]
    by_cases h0 : p.x = 0
    · left
      refine ⟨by rw [h0]; decide +kernel, ?_⟩
      rw [h0] at h2
      have h3 : (0 : FF).val % 2 = 0 := rfl
      rw [h3] at h2
      split at h2
      · omega
      · omega
    · right
      exact ⟨fun e => h0 (sq_zero e), half_root h0⟩
  · have some_of : ∀ x : FF, x * x = sqX y → x.val % 2 = (if 128 ≤ z.toNat then 1 else 0) → (ptOf (a ++ [z])).isSome = true := fun x hx hb => by
      have hon := pt_sqX hx (den_all y)
      have := ptOf_bytes hon
      rw [pB_of ha hy hb] at this
      rw [this]; rfl
    rintro (⟨h1, h2⟩ | ⟨h1, h2⟩)
    · refine some_of 0 (by rw [h1]; decide +kernel) ?_
      rw [if_neg (by omega)]; rfl
    · obtain ⟨r, hr⟩ := root_ex (.inr h2)
      have hr0 : r ≠ 0 := fun e => h1 (by rw [← hr, e]; decide +kernel)
      by_cases hp : r.val % 2 = if 128 ≤ z.toNat then 1 else 0
      · exact some_of r hr hp
      · refine some_of (-r) (by rw [FF_neg_sq]; exact hr) ?_
        rw [FF_neg_odd hr0]
        split at hp <;> split <;> omega
/-- The x that is looked for. -/
def rtF (s : FF) : FF := ⟨rt2 s.val, rt2_lt _⟩
theorem rtF_sq {x : FF} : rtF (x * x) * rtF (x * x) = x * x := by
  refine Fin.ext ?_
  rw [FF_sq_val]
  refine rt_found (x * x).isLt ?_
  rw [FF_sq_val]
  exact half_sq x.isLt rfl
theorem whole_x {p : Pt} (h : p.on) : (if decide ((rtF (sqX p.y)).val % 2 = 1) = decide (p.x.val % 2 = 1) then rtF (sqX p.y) else 0 - rtF (sqX p.y)) = p.x := by
  rw [sqX_pt h]
  have h1 := two_x (rtF_sq (x := p.x))
  have hz : ∀ a : FF, 0 - a = -a := fun a => by grobner
  by_cases h0 : p.x = 0
  · have h2 : rtF (p.x * p.x) = 0 := by
      rcases h1 with h1 | h1
      · rw [h1, h0]
      · rw [h1, h0]; decide +kernel
    rw [h2, h0]; decide +kernel
  · have ho := FF_neg_odd h0
    rcases h1 with h1 | h1
    · rw [h1, if_pos rfl]
    · rw [h1, if_neg, hz]
      · generalize p.x = a; grobner
      · intro he
        have := decide_eq_decide.1 he
        omega
theorem ii_pow : 2 ^ (pp / 4) % pp = ii := by
  rw [← pmod_is 255 2 (pp / 4) pp pp_two (Nat.lt_of_le_of_lt (Nat.div_le_self _ _) (by decide +kernel))]
  decide +kernel
end Go.Proofs.Ytealegfmmeklcaa
