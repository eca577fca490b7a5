/-
  Products of the base by scalars: plain.
-/
import Derived.Test.YtealegfmmeklcaaCvP
import Derived.Test.YtealegfmmeklcaaScF
namespace Go.Proofs.Ytealegfmmeklcaa
set_option linter.unusedVariables false
set_option linter.unusedSimpArgs false

theorem SF_mod (n : Nat) : Pt.times (n % 7237005577332262213973186563042994240857116359379907606001950938285454250989) Gb = Pt.times n Gb := times_mod n
theorem mul_add_s (s t : SF) : Pt.times (s + t).val Gb = (Pt.times s.val Gb).add (Pt.times t.val Gb) := by
  rw [Fin.val_add, SF_mod]
  exact Pt.times_add Gb_on _ _
theorem mul_mul_s (s t : SF) : Pt.times (s * t).val Gb = Pt.times t.val (Pt.times s.val Gb) := by
  rw [Fin.val_mul, SF_mod, Nat.mul_comm]
  exact Pt.times_times Gb_on _ _
theorem neg_of_add {P R : Pt} (hP : P.on) (hR : R.on) (h : P.add R = Pt.zero) : P = R.neg := by
  have e : (P.add R).add R.neg = P := by
    rw [Pt.add_assoc hP hR (Pt.neg_on hR), Pt.add_comm R, Pt.neg_add hR, Pt.add_zero hP]
  rw [h, Pt.zero_add (Pt.neg_on hR)] at e
  exact e.symm
theorem mul_neg_s (s : SF) : Pt.times (-s).val Gb = (Pt.times s.val Gb).neg := by
  refine neg_of_add (Pt.times_on Gb_on _) (Pt.times_on Gb_on _) ?_
  rw [← mul_add_s, show -s + s = 0 by grobner]
  rfl
theorem mul_one_s {P : Pt} (h : P.on) : Pt.times (1 : SF).val P = P := by
  show (Pt.times 0 P).add P = P
  exact Pt.zero_add h
theorem mul_m1 (u : SF) (h : u = 1) : (Pt.times (-u).val Gb).add Gb = Pt.zero := by
  subst h
  rw [mul_neg_s, mul_one_s Gb_on]
  exact Pt.neg_add Gb_on
end Go.Proofs.Ytealegfmmeklcaa
