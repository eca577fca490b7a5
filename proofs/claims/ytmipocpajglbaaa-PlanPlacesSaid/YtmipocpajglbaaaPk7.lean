/-
  Texts of this claim in one file: Flo, Flc, Flw.
-/
import Derived.Laws.FloatArith
import Derived.Test.YtmipocpajglbaaaPk13
import Derived.Laws.ComplexArith
section
namespace Go.Proofs.Ytmipocpajglbaaa
open Go Go.RowKit Ieee
set_option linter.unusedVariables false
set_option linter.unusedSimpArgs false
theorem log2_pow_mul {m : Nat} (h : m ≠ 0) (p : Nat) : Nat.log2 (m * 2 ^ p) = Nat.log2 m + p := by
  have hp := Nat.two_pow_pos p
  have h1 := Nat.log2_self_le h
  have h2 := Nat.lt_log2_self (n := m)
  rw [Nat.log2_eq_iff (Nat.mul_ne_zero h (by omega))]
  constructor
  · rw [Nat.pow_add]; exact Nat.mul_le_mul_right _ h1
  · rw [show Nat.log2 m + p + 1 = Nat.log2 m + 1 + p by omega, Nat.pow_add]; exact Nat.mul_lt_mul_of_pos_right h2 hp
theorem cut_exact (way : Toward) (s : Bool) (k d : Nat) (hd : d ≤ (k * 2 ^ d).log2 + 2 ∨ k = 0) : way.cut s (k * 2 ^ d) d = k := by
  have hg : ∀ g, 0 < g → (1 : Nat) <<< g = 2 ^ g := fun g _ => by rw [Nat.shiftLeft_eq, Nat.one_mul]
  rcases hd with hd | hd
  · unfold Toward.cut
    dsimp only
    rw [Nat.min_eq_left hd, Nat.shiftLeft_eq, Nat.one_mul]
    have hp := Nat.two_pow_pos d
    rw [Nat.mul_div_cancel _ hp, Nat.mul_mod_left]
    cases way
    · have h1 : decide (2 ^ d < 2 * 0) = false := by simp
      have h2 : (2 ^ d == 2 * 0) = false := by simp
      rw [h1, h2]; simp
    · simp
    · simp
    · simp
  · subst hd
    unfold Toward.cut
    rw [Nat.zero_mul]
    dsimp only
    rw [Nat.shiftLeft_eq, Nat.one_mul, Nat.zero_div, Nat.zero_mod]
    have hp := Nat.two_pow_pos (min d (Nat.log2 0 + 2))
    cases way
    · have h1 : decide (2 ^ min d (Nat.log2 0 + 2) < 2 * 0) = false := by simp
      have h2 : (2 ^ min d (Nat.log2 0 + 2) == 2 * 0) = false := by simp
      rw [h1, h2]; simp
    · simp
    · simp
    · simp
/-- The word of a sign and a whole number below 2^53. -/
def fw (s : Bool) (m : Nat) : Nat := if m = 0 then double.word s 0 else double.word s ((m.log2 + 1022) * 2 ^ 52 + m * 2 ^ (52 - m.log2))
theorem dbl : double.fractionBits = 52 ∧ double.leastPlace = -1074 ∧ double.binade = 2 ^ 52 ∧ double.infRung = 2047 * 2 ^ 52 ∧ double.signWeight = 2 ^ 63 := by decide
theorem kept_nums {m : Nat} (h0 : m ≠ 0) (h1 : m < 2 ^ 53) : m.log2 ≤ 52 ∧ 2 ^ 52 ≤ m * 2 ^ (52 - m.log2) ∧ m * 2 ^ (52 - m.log2) < 2 ^ 53 := by
  have hl : m.log2 ≤ 52 := by have := (Nat.log2_lt h0).2 h1; omega
  have h2 := Nat.log2_self_le h0
  have h3 := Nat.lt_log2_self (n := m)
  refine ⟨hl, ?_, ?_⟩
  · calc 2 ^ 52 = 2 ^ m.log2 * 2 ^ (52 - m.log2) := by rw [← Nat.pow_add, show m.log2 + (52 - m.log2) = 52 by omega]
      _ ≤ _ := Nat.mul_le_mul_right _ h2
  · calc m * 2 ^ (52 - m.log2) < 2 ^ (m.log2 + 1) * 2 ^ (52 - m.log2) := Nat.mul_lt_mul_of_pos_right h3 (Nat.two_pow_pos _)
      _ = 2 ^ 53 := by rw [← Nat.pow_add, show m.log2 + 1 + (52 - m.log2) = 53 by omega]
theorem near_fw (s : Bool) {m : Nat} (h1 : m < 2 ^ 53) (p : Nat) : double.nearest s (m * 2 ^ p) (-(p : Int)) = fw s m := by
  obtain ⟨d1, d2, d3, d4, -⟩ := dbl
  by_cases h0 : m = 0
  · subst h0
    unfold Format.nearest fw
    rw [if_pos rfl, if_pos (Nat.zero_mul _)]
  · have hk := kept_nums h0 h1
    have hlog := log2_pow_mul h0 p
    obtain ⟨hk1, hk2, hk3⟩ := hk
    unfold Format.nearest fw
    rw [if_neg h0, if_neg (Nat.mul_ne_zero h0 (Nat.pos_iff_ne_zero.1 (Nat.two_pow_pos p)))]
    dsimp only
    rw [hlog, d1, d2, d3, d4]
    obtain ⟨e, he⟩ : ∃ e, e = m.log2 := ⟨_, rfl⟩
    rw [← he] at hlog hk1 hk2 hk3 ⊢
    have hlast : max (-(p : Int) + ((e + p : Nat) : Int) - ((52 : Nat) : Int)) (-1074) = (e : Int) - 52 := by omega
    rw [hlast]
    have hrung : ((e : Int) - 52 - -1074).toNat = e + 1022 := by omega
    rw [hrung]
    have hkept : Toward.even.cut s ((m * 2 ^ p) <<< (-(p : Int) - ((e : Int) - 52)).toNat) ((e : Int) - 52 - -(p : Int)).toNat = m * 2 ^ (52 - e) := by
      rcases Nat.le_total p (52 - e) with hle | hle
      · have e1 : (-(p : Int) - ((e : Int) - 52)).toNat = 52 - e - p := by omega
        have e2 : ((e : Int) - 52 - -(p : Int)).toNat = 0 := by omega
        rw [e1, e2, Nat.shiftLeft_eq, Nat.mul_assoc, ← Nat.pow_add, show p + (52 - e - p) = 52 - e by omega]
        have h := cut_exact .even s (m * 2 ^ (52 - e)) 0 (.inl (Nat.zero_le _))
        rw [Nat.pow_zero, Nat.mul_one] at h
        exact h
      · have e1 : (-(p : Int) - ((e : Int) - 52)).toNat = 0 := by omega
        have e2 : ((e : Int) - 52 - -(p : Int)).toNat = p - (52 - e) := by omega
        have e3 : m * 2 ^ p = m * 2 ^ (52 - e) * 2 ^ (p - (52 - e)) := by rw [Nat.mul_assoc, ← Nat.pow_add, show 52 - e + (p - (52 - e)) = p by omega]
        rw [e1, e2, Nat.shiftLeft_eq, Nat.pow_zero, Nat.mul_one, e3]
        refine cut_exact .even s _ _ (.inl ?_)
        rw [← e3, hlog]
        omega
    rw [hkept, Nat.min_eq_left (by omega)]
theorem read_word (s : Bool) {r : Nat} (hr : r < 2 ^ 63) : double.word s r / 2 ^ 63 % 2 = s.toNat ∧ double.word s r % 2 ^ 63 = r := by
  unfold Format.word
  rw [dbl.2.2.2.2]
  cases s
  · simp only [Bool.false_eq_true, if_false, Bool.toNat_false]; omega
  · simp only [if_true, Bool.toNat_true]; omega
theorem read_fw (s : Bool) {m : Nat} (h1 : m < 2 ^ 53) : ∃ p : Nat, double.read (fw s m) = .number s (m * 2 ^ p) (-(p : Int)) := by
  obtain ⟨d1, d2, d3, d4, d5⟩ := dbl
  have hsb : ∀ b : Bool, (b.toNat == 1) = b := fun b => by cases b <;> rfl
  by_cases h0 : m = 0
  · subst h0
    obtain ⟨p, hp⟩ : ∃ p : Nat, (p : Int) = 1074 := ⟨1074, rfl⟩
    refine ⟨p, ?_⟩
    rw [Nat.zero_mul, hp]
    obtain ⟨r1, r2⟩ := read_word s (r := 0) (by decide)
    unfold Format.read fw
    dsimp only
    rw [if_pos rfl, d5, d3, d2, r1, r2, if_pos (by decide), hsb]
  · obtain ⟨hk1, hk2, hk3⟩ := kept_nums h0 h1
    obtain ⟨e, he⟩ : ∃ e, e = m.log2 := ⟨_, rfl⟩
    obtain ⟨K, hK⟩ : ∃ K, K = m * 2 ^ (52 - e) := ⟨_, rfl⟩
    refine ⟨52 - e, ?_⟩
    unfold Format.read fw
    rw [← he] at hk1 hk2 hk3 ⊢
    rw [if_neg h0]
    rw [← hK] at hk2 hk3 ⊢
    obtain ⟨r1, r2⟩ := read_word s (r := (e + 1022) * 2 ^ 52 + K) (by omega)
    dsimp only
    rw [d5, d3, d4, d2, r1, r2, hsb, if_neg (by omega), if_pos (by omega)]
    congr 1
    · omega
    · omega
/-- A float64 that is the whole number n (nought of either sign). -/
def Fz (b : Nat) (n : Int) : Prop := ∃ s : Bool, b = fw s n.natAbs ∧ (n ≠ 0 → s = decide (n < 0)) ∧ n.natAbs < 2 ^ 53
theorem fz_of (n : Int) (h : n.natAbs < 2 ^ 53) : Fz (double.write (.number (n < 0) n.natAbs 0)) n := by
  refine ⟨decide (n < 0), ?_, fun _ => rfl, h⟩
  have h2 := near_fw (decide (n < 0)) h 0
  rw [Nat.pow_zero, Nat.mul_one] at h2
  exact h2
theorem fz_read {b : Nat} {n : Int} (h : Fz b n) : ∃ (s : Bool) (p : Nat), double.read b = .number s (n.natAbs * 2 ^ p) (-(p : Int)) ∧ (n ≠ 0 → s = decide (n < 0)) := by
  obtain ⟨s, rfl, hs, hl⟩ := h
  obtain ⟨p, hp⟩ := read_fw s hl
  exact ⟨s, p, hp, hs⟩
theorem signed_of {s : Bool} {n : Int} (hs : n ≠ 0 → s = decide (n < 0)) (p M : Nat) (h : p ≤ M) : signed s (n.natAbs * 2 ^ p) (M - p) = n * ((2 ^ M : Nat) : Int) := by
  unfold signed
  rw [Nat.shiftLeft_eq, Nat.mul_assoc, ← Nat.pow_add, show p + (M - p) = M by omega]
  by_cases h0 : n = 0
  · subst h0; simp
  · rw [hs h0]
    by_cases hn : n < 0
    · rw [decide_eq_true hn, if_pos rfl]
      have : (n.natAbs : Int) = -n := by omega
      rw [Int.natCast_mul, this]
      exact (Int.neg_mul_eq_neg_mul _ _).symm ▸ by simp
    · rw [decide_eq_false hn, if_neg (by simp)]
      have : (n.natAbs : Int) = n := by omega
      rw [Int.natCast_mul, this]
theorem mul_pow_natAbs (n : Int) (M : Nat) : (n * ((2 ^ M : Nat) : Int)).natAbs = n.natAbs * 2 ^ M := by rw [Int.natAbs_mul, Int.natAbs_natCast]
theorem mul_pow_neg (n : Int) (M : Nat) : decide (n * ((2 ^ M : Nat) : Int) < 0) = decide (n < 0) := by
  have hp : (0 : Int) < ((2 ^ M : Nat) : Int) := by have := Nat.two_pow_pos M; omega
  by_cases h : n < 0
  · rw [decide_eq_true h, decide_eq_true (Int.mul_neg_of_neg_of_pos h hp)]
  · rw [decide_eq_false h, decide_eq_false (Int.not_lt.2 (Int.mul_nonneg (by omega) (by omega)))]
theorem mul_pow_zero (n : Int) (M : Nat) : n * ((2 ^ M : Nat) : Int) = 0 ↔ n = 0 := by
  have hp := Nat.two_pow_pos M
  constructor
  · intro h
    rcases Int.mul_eq_zero.1 h with h | h
    · exact h
    · omega
  · intro h; rw [h, Int.zero_mul]
/-- A sum, as data. -/
theorem sum_data {a b : Int} {s t : Bool} (p r : Nat) (ha : a ≠ 0 → s = decide (a < 0)) (hb : b ≠ 0 → t = decide (b < 0)) :
    ∃ (u : Bool) (M : Nat), (Datum.number s (a.natAbs * 2 ^ p) (-(p : Int))).sum (.number t (b.natAbs * 2 ^ r) (-(r : Int))) = some (.number u ((a + b).natAbs * 2 ^ M) (-(M : Int))) ∧ (a + b ≠ 0 → u = decide (a + b < 0)) := by
  obtain ⟨M, hM⟩ : ∃ M, M = max p r := ⟨_, rfl⟩
  have hbase : min (-(p : Int)) (-(r : Int)) = -(M : Int) := by omega
  have h1 : (-(p : Int) - -(M : Int)).toNat = M - p := by omega
  have h2 : (-(r : Int) - -(M : Int)).toNat = M - r := by omega
  have h3 := signed_of ha p M (by omega)
  have h4 := signed_of hb r M (by omega)
  refine ⟨if a + b = 0 then s && t else decide (a + b < 0), M, ?_, fun h => by rw [if_neg h]⟩
  unfold Datum.sum
  dsimp only
  rw [hbase, h1, h2, h3, h4, ← Int.add_mul, mul_pow_natAbs, mul_pow_neg]
  congr 2
  by_cases h : a + b = 0
  · rw [if_pos h, if_pos ((mul_pow_zero _ _).2 h)]
  · rw [if_neg h, if_neg (fun h2 => h ((mul_pow_zero _ _).1 h2))]
theorem fz_add {v w : Nat} {a b : Int} (ha : Fz v a) (hb : Fz w b) (h : (a + b).natAbs < 2 ^ 53) : ∃ r, double.add v w = some r ∧ Fz r (a + b) := by
  obtain ⟨s, p, h1, h2⟩ := fz_read ha
  obtain ⟨t, r, h3, h4⟩ := fz_read hb
  obtain ⟨u, M, h5, h6⟩ := sum_data p r h2 h4
  refine ⟨fw u (a + b).natAbs, ?_, u, rfl, h6, h⟩
  unfold Format.add
  rw [h1, h3, h5, Option.map_some]
  exact congrArg some (near_fw u h M)
theorem fz_sub {v w : Nat} {a b : Int} (ha : Fz v a) (hb : Fz w b) (h : (a - b).natAbs < 2 ^ 53) : ∃ r, double.sub v w = some r ∧ Fz r (a - b) := by
  obtain ⟨s, p, h1, h2⟩ := fz_read ha
  obtain ⟨t, r, h3, h4⟩ := fz_read hb
  obtain ⟨u, M, h5, h6⟩ := sum_data (b := -b) (t := !t) p r h2 (fun h => by
    rw [h4 (by omega)]
    by_cases hb : b < 0
    · rw [decide_eq_true hb, decide_eq_false (by omega)]; rfl
    · rw [decide_eq_false hb, decide_eq_true (by omega)]; rfl)
  rw [Int.natAbs_neg, ← Int.sub_eq_add_neg] at h5
  rw [← Int.sub_eq_add_neg] at h6
  refine ⟨fw u (a - b).natAbs, ?_, u, rfl, h6, h⟩
  unfold Format.sub
  rw [h1, h3]
  show Option.map double.write ((Datum.number s (a.natAbs * 2 ^ p) (-(p : Int))).sum (.number (!t) (b.natAbs * 2 ^ r) (-(r : Int)))) = _
  rw [h5, Option.map_some]
  exact congrArg some (near_fw u h M)
theorem fz_mul {v w : Nat} {a b : Int} (ha : Fz v a) (hb : Fz w b) (h : (a * b).natAbs < 2 ^ 53) : ∃ r, double.mul v w = some r ∧ Fz r (a * b) := by
  obtain ⟨s, p, h1, h2⟩ := fz_read ha
  obtain ⟨t, r, h3, h4⟩ := fz_read hb
  refine ⟨fw (s ^^ t) (a * b).natAbs, ?_, s ^^ t, rfl, fun h0 => ?_, h⟩
  · unfold Format.mul
    rw [h1, h3]
    show Option.map double.write (some (.number (s ^^ t) (a.natAbs * 2 ^ p * (b.natAbs * 2 ^ r)) (-(p : Int) + -(r : Int)))) = _
    rw [Option.map_some]
    have e1 : a.natAbs * 2 ^ p * (b.natAbs * 2 ^ r) = (a * b).natAbs * 2 ^ (p + r) := by rw [Int.natAbs_mul, Nat.pow_add, Nat.mul_mul_mul_comm]
    have e2 : -(p : Int) + -(r : Int) = -((p + r : Nat) : Int) := by omega
    rw [e1, e2]
    exact congrArg some (near_fw (s ^^ t) h (p + r))
  · have ha0 : a ≠ 0 := fun h => h0 (by rw [h, Int.zero_mul])
    have hb0 : b ≠ 0 := fun h => h0 (by rw [h, Int.mul_zero])
    rw [h2 ha0, h4 hb0]
    rcases Int.lt_or_gt_of_ne ha0 with h5 | h5 <;> rcases Int.lt_or_gt_of_ne hb0 with h6 | h6
    · rw [decide_eq_true h5, decide_eq_true h6, decide_eq_false (Int.not_lt.2 (Int.le_of_lt (Int.mul_pos_of_neg_of_neg h5 h6)))]; rfl
    · rw [decide_eq_true h5, decide_eq_false (by omega), decide_eq_true (Int.mul_neg_of_neg_of_pos h5 h6)]; rfl
    · rw [decide_eq_false (by omega), decide_eq_true h6, decide_eq_true (Int.mul_neg_of_pos_of_neg h5 h6)]; rfl
    · rw [decide_eq_false (by omega), decide_eq_false (by omega), decide_eq_false (Int.not_lt.2 (Int.le_of_lt (Int.mul_pos h5 h6)))]; rfl
theorem compare_mul (a b : Int) (M : Nat) : compare (a * ((2 ^ M : Nat) : Int)) (b * ((2 ^ M : Nat) : Int)) = compare a b := by
  have hp : (0 : Int) < ((2 ^ M : Nat) : Int) := by have := Nat.two_pow_pos M; omega
  rcases Int.lt_trichotomy a b with h | h | h
  · rw [Int.compare_eq_lt.2 h, Int.compare_eq_lt.2 (Int.mul_lt_mul_of_pos_right h hp)]
  · rw [h, Int.compare_eq_eq.2 rfl, Int.compare_eq_eq.2 rfl]
  · rw [Int.compare_eq_gt.2 h, Int.compare_eq_gt.2 (Int.mul_lt_mul_of_pos_right h hp)]
theorem fz_order {v w : Nat} {a b : Int} (ha : Fz v a) (hb : Fz w b) : double.order v w = some (compare a b) := by
  obtain ⟨s, p, h1, h2⟩ := fz_read ha
  obtain ⟨t, r, h3, h4⟩ := fz_read hb
  obtain ⟨M, hM⟩ : ∃ M, M = max p r := ⟨_, rfl⟩
  have hbase : min (-(p : Int)) (-(r : Int)) = -(M : Int) := by omega
  unfold Format.order
  rw [h1, h3]
  unfold Datum.order
  dsimp only
  rw [hbase, show (-(p : Int) - -(M : Int)).toNat = M - p by omega, show (-(r : Int) - -(M : Int)).toNat = M - r by omega, signed_of h2 p M (by omega), signed_of h4 r M (by omega), compare_mul]
theorem fz_int {v : Nat} {a : Int} (ha : Fz v a) : (double.read v).toInt .zero = some a := by
  obtain ⟨s, p, h1, h2⟩ := fz_read ha
  rw [h1]
  unfold Datum.toInt Datum.integral
  dsimp only
  have e1 : (-(p : Int)).toNat = 0 := by omega
  have e2 : (- -(p : Int)).toNat = p := by omega
  rw [e1, e2, Nat.shiftLeft_eq, Nat.pow_zero, Nat.mul_one, cut_exact .zero s a.natAbs p (by
    by_cases h0 : a.natAbs = 0
    · exact .inr h0
    · left; rw [log2_pow_mul h0]; omega)]
  have h3 := signed_of h2 0 0 (Nat.le_refl _)
  simp only [Nat.pow_zero, Nat.mul_one, Nat.sub_self] at h3
  rw [h3]
  simp
end Go.Proofs.Ytmipocpajglbaaa
end
section
namespace Go.Proofs.Ytmipocpajglbaaa
open Go Go.RowKit Ieee
set_option linter.unusedVariables false
set_option linter.unusedSimpArgs false
/-- A complex128 that is the whole complex number x + yi (noughts of either sign). -/
def Cz (a b : Nat) (x y : Int) : Prop := Fz a x ∧ Fz b y
def Lt20 (x : Int) : Prop := -1048576 ≤ x ∧ x ≤ 1048576
theorem lt20_abs {x : Int} (h : Lt20 x) : x.natAbs < 2 ^ 53 := by unfold Lt20 at h; omega
theorem abs_sum {x y : Int} (h : x.natAbs ≤ 1099511627776) (h' : y.natAbs ≤ 1099511627776) : (x + y).natAbs < 2 ^ 53 ∧ (x - y).natAbs < 2 ^ 53 := by omega
theorem abs_mul {x y : Int} (h : Lt20 x) (h' : Lt20 y) : (x * y).natAbs ≤ 1099511627776 := by
  rw [Int.natAbs_mul]
  unfold Lt20 at h h'
  have := Nat.mul_le_mul (show x.natAbs ≤ 1048576 by omega) (show y.natAbs ≤ 1048576 by omega)
  omega
theorem fz_nat (x : Int) (h : Lt20 x) : Fz (floatOfInt .f64 x) x := fz_of x (lt20_abs h)
theorem cz_sub {a b c d : Nat} {x y x' y' : Int} (h : Cz a b x y) (h' : Cz c d x' y') (h1 : Lt20 x) (h2 : Lt20 y) (h3 : Lt20 x') (h4 : Lt20 y') : ∃ re im, cSumBits .sub .f64 a b c d = some (re, im) ∧ Cz re im (x - x') (y - y') := by
  unfold Lt20 at *
  obtain ⟨r, e1, f1⟩ := fz_sub h.1 h'.1 (by omega)
  obtain ⟨i, e2, f2⟩ := fz_sub h.2 h'.2 (by omega)
  refine ⟨r, i, ?_, f1, f2⟩
  unfold cSumBits
  show (double.sub a c).bind (fun re => (double.sub b d).bind fun im => some (re, im)) = _
  rw [e1, e2]; rfl
theorem cz_mul {a b c d : Nat} {x y x' y' : Int} (h : Cz a b x y) (h' : Cz c d x' y') (h1 : Lt20 x) (h2 : Lt20 y) (h3 : Lt20 x') (h4 : Lt20 y') : ∃ re im, cMulBits a b c d = some (re, im) ∧ Cz re im (x * x' - y * y') (x * y' + y * x') := by
  have m1 := abs_mul h1 h3
  have m2 := abs_mul h2 h4
  have m3 := abs_mul h1 h4
  have m4 := abs_mul h2 h3
  obtain ⟨r1, e1, f1⟩ := fz_mul h.1 h'.1 (by omega)
  obtain ⟨r2, e2, f2⟩ := fz_mul h.2 h'.2 (by omega)
  obtain ⟨r3, e3, f3⟩ := fz_sub f1 f2 (abs_sum m1 m2).2
  obtain ⟨r4, e4, f4⟩ := fz_mul h.1 h'.2 (by omega)
  obtain ⟨r5, e5, f5⟩ := fz_mul h.2 h'.1 (by omega)
  obtain ⟨r6, e6, f6⟩ := fz_add f4 f5 (abs_sum m3 m4).1
  refine ⟨r3, r6, ?_, f3, f6⟩
  unfold cMulBits
  show (double.mul a c).bind (fun ac => (double.mul b d).bind fun bd => (double.sub ac bd).bind fun re => (double.mul a d).bind fun ad => (double.mul b c).bind fun bc => (double.add ad bc).bind fun im => some (re, im)) = _
  rw [e1, e2]
  show (double.sub r1 r2).bind (fun re => (double.mul a d).bind fun ad => (double.mul b c).bind fun bc => (double.add ad bc).bind fun im => some (re, im)) = _
  rw [e3, e4, e5]
  show (double.add r4 r5).bind (fun im => some (r3, im)) = _
  rw [e6]; rfl
theorem cz_eq {a b c d : Nat} {x y x' y' : Int} (h : Cz a b x y) (h' : Cz c d x' y') : ((double.order a c == some .eq) && (double.order b d == some .eq)) = (decide (x = x') && decide (y = y')) := by
  rw [fz_order h.1 h'.1, fz_order h.2 h'.2]
  have he : ∀ p q : Int, ((some (compare p q) : Option Ordering) == some .eq) = decide (p = q) := fun p q => by
    by_cases hpq : p = q
    · rw [hpq, Int.compare_eq_eq.2 rfl, decide_eq_true rfl]; rfl
    · rw [decide_eq_false hpq]
      rcases Int.lt_or_gt_of_ne hpq with h | h
      · rw [Int.compare_eq_lt.2 h]; rfl
      · rw [Int.compare_eq_gt.2 h]; rfl
  rw [he, he]
section
variable {P : Program} (w : World) (t : TypeId)
theorem run_cz_sub {a b c d : Nat} {x y x' y' : Int} (h : Cz a b x y) (h' : Cz c d x' y') (h1 : Lt20 x) (h2 : Lt20 y) (h3 : Lt20 x') (h4 : Lt20 y') : ∃ re im, (∀ w : World, (binOp .sub t (.complex .f64 a b) (.complex .f64 c d)).run P w = .ok (.complex .f64 re im) w) ∧ Cz re im (x - x') (y - y') := by
  obtain ⟨re, im, e, f⟩ := cz_sub h h' h1 h2 h3 h4
  exact ⟨re, im, fun w => run_complex_sum w .sub (.inr rfl) t .f64 a b c d re im e, f⟩
theorem run_cz_mul {a b c d : Nat} {x y x' y' : Int} (h : Cz a b x y) (h' : Cz c d x' y') (h1 : Lt20 x) (h2 : Lt20 y) (h3 : Lt20 x') (h4 : Lt20 y') : ∃ re im, (∀ w : World, (binOp .mul t (.complex .f64 a b) (.complex .f64 c d)).run P w = .ok (.complex .f64 re im) w) ∧ Cz re im (x * x' - y * y') (x * y' + y * x') := by
  obtain ⟨re, im, e, f⟩ := cz_mul h h' h1 h2 h3 h4
  exact ⟨re, im, fun w => run_complex_mul w t a b c d re im e, f⟩
theorem run_cz_eql {a b c d : Nat} {x y x' y' : Int} (h : Cz a b x y) (h' : Cz c d x' y') : (binOp .eql t (.complex .f64 a b) (.complex .f64 c d)).run P w = .ok (.bool (decide (x = x') && decide (y = y'))) w := by
  rw [run_eql_complex]
  rw [show (FloatKind.f64.format.order a c == some .eq && FloatKind.f64.format.order b d == some .eq) = _ from cz_eq h h']
end
end Go.Proofs.Ytmipocpajglbaaa
end
section
namespace Go.Proofs.Ytmipocpajglbaaa
open Go Go.RowKit Ieee
set_option linter.unusedVariables false
set_option linter.unusedSimpArgs false
theorem signed_abs (s : Bool) (m u : Nat) : (signed s m u).natAbs = m * 2 ^ u := by
  unfold signed
  rw [Nat.shiftLeft_eq]
  split <;> omega
theorem signed_sgn {s : Bool} {m u : Nat} (h : m * 2 ^ u ≠ 0) : s = decide (signed s m u < 0) := by
  unfold signed
  rw [Nat.shiftLeft_eq]
  cases s
  · rw [if_neg (by simp), decide_eq_false (by omega)]
  · rw [if_pos rfl, decide_eq_true (by omega)]
/-- The word of a number that is read as a whole one. -/
theorem read_whole {v : Nat} (hv : v < 2 ^ 64) {s : Bool} {m : Nat} {i : Int} {a : Nat} (ha : a < 2 ^ 53) (hr : double.read v = .number s m i) (he : m * 2 ^ i.toNat = a * 2 ^ (-i).toNat) : v = fw s a := by
  obtain ⟨d1, d2, d3, d4, d5⟩ := dbl
  unfold Format.read at hr
  dsimp only at hr
  rw [d5, d3, d4, d2] at hr
  obtain ⟨R, hR⟩ : ∃ R, R = v % 2 ^ 63 := ⟨_, rfl⟩
  obtain ⟨S, hS⟩ : ∃ S, S = v / 2 ^ 63 % 2 := ⟨_, rfl⟩
  rw [← hR, ← hS] at hr
  have hword : ∀ t : Bool, (S == 1) = t → v = double.word t R := fun t ht => by
    unfold Format.word
    rw [d5]
    cases t
    · rw [if_neg (by simp)]
      have := beq_eq_false_iff_ne.1 ht
      omega
    · rw [if_pos rfl]
      have := beq_iff_eq.1 ht
      omega
  split at hr
  · next hsub =>
    injection hr with h1 h2 h3
    subst h2
    have ei : i.toNat = 0 := by omega
    obtain ⟨p, hp⟩ : ∃ p : Nat, p = (-i).toNat := ⟨_, rfl⟩
    have hp2 : p = 1074 := by omega
    rw [ei, Nat.pow_zero, Nat.mul_one, ← hp] at he
    have ha0 : a = 0 := by
      rcases Nat.eq_zero_or_pos a with h | h
      · exact h
      · exfalso
        have h4 : 2 ^ 52 ≤ 2 ^ p := Nat.pow_le_pow_right (by decide) (by omega)
        have h5 := Nat.mul_le_mul h h4
        omega
    subst ha0
    rw [Nat.zero_mul] at he
    unfold fw
    rw [if_pos rfl]
    have := hword s h1
    rw [he] at this
    exact this
  · next hnsub =>
    split at hr
    · next hnorm =>
      injection hr with h1 h2 h3
      obtain ⟨E, hE⟩ : ∃ E, E = R / 2 ^ 52 := ⟨_, rfl⟩
      obtain ⟨f, hf⟩ : ∃ f, f = R % 2 ^ 52 := ⟨_, rfl⟩
      rw [← hE] at h3
      rw [← hf] at h2
      have hE1 : 1 ≤ E ∧ E < 2047 := by omega
      have hi : i = (E : Int) - 1075 := by omega
      have hm : m = 2 ^ 52 + f := h2.symm
      have hf2 : f < 2 ^ 52 := by omega
      have ha0 : a ≠ 0 := by
        intro h
        rw [h, Nat.zero_mul] at he
        rcases Nat.mul_eq_zero.1 he with h | h
        · omega
        · have := Nat.two_pow_pos i.toNat; omega
      have hlog : m.log2 = 52 := by rw [Nat.log2_eq_iff (by omega)]; omega
      obtain ⟨u, hu⟩ : ∃ u, u = i.toNat := ⟨_, rfl⟩
      obtain ⟨d, hd⟩ : ∃ d, d = (-i).toNat := ⟨_, rfl⟩
      rw [← hu, ← hd] at he
      have hl : m.log2 + u = a.log2 + d := by rw [← log2_pow_mul (by omega) u, he, log2_pow_mul ha0 d]
      have hk := (kept_nums ha0 ha).1
      obtain ⟨e, hee⟩ : ∃ e, e = a.log2 := ⟨_, rfl⟩
      rw [hlog, ← hee] at hl
      rw [← hee] at hk
      have hu0 : u = 0 := by omega
      have hd2 : d = 52 - e := by omega
      rw [hu0, Nat.pow_zero, Nat.mul_one, hd2] at he
      unfold fw
      rw [if_neg ha0, ← hee, ← he]
      have hEe : E = e + 1023 := by omega
      have := hword s h1
      rw [show R = (e + 1022) * 2 ^ 52 + m by omega] at this
      exact this
    · split at hr <;> cases hr
/-- Equal to a whole number: that number. -/
theorem fz_of_order {v w : Nat} {z : Int} (hv : v < 2 ^ 64) (hw : Fz w z) (h : double.order v w = some .eq) : Fz v z := by
  obtain ⟨t, p, hr, hs⟩ := fz_read hw
  obtain ⟨-, -, -, hz⟩ := hw
  unfold Format.order at h
  rw [hr] at h
  cases hv2 : double.read v with
  | nan _ _ => rw [hv2] at h; cases h
  | infinity s => rw [hv2] at h; cases s <;> cases h
  | number s m i =>
    rw [hv2] at h
    unfold Datum.order at h
    dsimp only at h
    injection h with h
    have h2 := Int.compare_eq_eq.1 h
    obtain ⟨M, hM⟩ : ∃ M : Nat, (M : Int) = -(min i (-(p : Int))) := ⟨(-(min i (-(p : Int)))).toNat, by omega⟩
    have e1 : (i - min i (-(p : Int))).toNat = (i + M).toNat := by omega
    have e2 : (-(p : Int) - min i (-(p : Int))).toNat = M - p := by omega
    rw [e1, e2, signed_of hs p M (by omega)] at h2
    have h3 := congrArg Int.natAbs h2
    rw [signed_abs, mul_pow_natAbs] at h3
    have h4 : m * 2 ^ i.toNat = z.natAbs * 2 ^ (-i).toNat := by
      rcases Int.le_total 0 i with hi | hi
      · rw [show (i + M).toNat = i.toNat + M by omega, Nat.pow_add, ← Nat.mul_assoc] at h3
        have h5 := Nat.mul_right_cancel (Nat.two_pow_pos M) h3
        rw [h5, show (-i).toNat = 0 by omega, Nat.pow_zero, Nat.mul_one]
      · have h6 : M = (i + M).toNat + (-i).toNat := by omega
        have h7 : 2 ^ M = 2 ^ (-i).toNat * 2 ^ (i + M).toNat := by rw [← Nat.pow_add]; congr 1; omega
        rw [h7, ← Nat.mul_assoc] at h3
        have h5 := Nat.mul_right_cancel (Nat.two_pow_pos _) h3
        rw [h5, show i.toNat = 0 by omega, Nat.pow_zero, Nat.mul_one]
    refine ⟨s, read_whole hv hz hv2 h4, fun h0 => ?_, hz⟩
    have hne : m * 2 ^ (i + M).toNat ≠ 0 := by
      rw [h3]
      exact Nat.mul_ne_zero (by omega) (by have := Nat.two_pow_pos M; omega)
    rw [signed_sgn (s := s) hne, h2, mul_pow_neg]
theorem order_lt {a b c : Nat} {x y : Int} (hx : Fz b x) (hy : Fz c y) (h1 : double.order a b = some .gt) (h2 : double.order a c = some .lt) : ∃ n : Int, (double.read a).toInt .zero = some n ∧ n.natAbs ≤ max x.natAbs y.natAbs := by
  obtain ⟨s, p, hr, hs⟩ := fz_read hx
  obtain ⟨t, r, hr', ht⟩ := fz_read hy
  unfold Format.order at h1 h2
  rw [hr] at h1
  rw [hr'] at h2
  cases hv : double.read a with
  | nan _ _ => rw [hv] at h1; cases h1
  | infinity u => rw [hv] at h1 h2; cases u <;> (first | cases h1; done | cases h2)
  | number u m i =>
    rw [hv] at h1 h2
    unfold Datum.order at h1 h2
    dsimp only at h1 h2
    injection h1 with h1
    injection h2 with h2
    have g1 := Int.compare_eq_gt.1 h1
    have g2 := Int.compare_eq_lt.1 h2
    obtain ⟨M, hM⟩ : ∃ M : Nat, (M : Int) = -(min i (-(p : Int))) := ⟨(-(min i (-(p : Int)))).toNat, by omega⟩
    obtain ⟨M', hM'⟩ : ∃ M : Nat, (M : Int) = -(min i (-(r : Int))) := ⟨(-(min i (-(r : Int)))).toNat, by omega⟩
    rw [show (i - min i (-(p : Int))).toNat = (i + M).toNat by omega, show (-(p : Int) - min i (-(p : Int))).toNat = M - p by omega, signed_of hs p M (by omega)] at g1
    rw [show (i - min i (-(r : Int))).toNat = (i + M').toNat by omega, show (-(r : Int) - min i (-(r : Int))).toNat = M' - r by omega, signed_of ht r M' (by omega)] at g2
    refine ⟨_, rfl, ?_⟩
    show (signed u (Toward.zero.cut u (m <<< i.toNat) (-i).toNat) 0).natAbs ≤ _
    rw [signed_abs, Nat.pow_zero, Nat.mul_one]
    have hcut : Toward.zero.cut u (m <<< i.toNat) (-i).toNat * 2 ^ (-i).toNat ≤ m * 2 ^ i.toNat := by
      unfold Toward.cut
      dsimp only
      rw [Bool.toNat_false, Nat.add_zero, Nat.shiftLeft_eq, Nat.shiftLeft_eq, Nat.one_mul]
      obtain ⟨N, hN⟩ : ∃ N, N = m * 2 ^ i.toNat := ⟨_, rfl⟩
      rw [← hN]
      rcases Nat.le_total (-i).toNat (N.log2 + 2) with hle | hle
      · rw [Nat.min_eq_left hle]; exact Nat.div_mul_le_self _ _
      · rw [Nat.min_eq_right hle, Nat.div_eq_of_lt, Nat.zero_mul]
        · exact Nat.zero_le _
        · calc N < 2 ^ (N.log2 + 1) := Nat.lt_log2_self
            _ ≤ _ := Nat.pow_le_pow_right (by decide) (by omega)
    obtain ⟨C, hC⟩ : ∃ C, C = Toward.zero.cut u (m <<< i.toNat) (-i).toNat := ⟨_, rfl⟩
    rw [← hC] at hcut ⊢
    -- the value's size is below one of the bounds
    have key : ∀ (M : Nat) (B : Nat), (i + M : Int) ≥ 0 → m * 2 ^ (i + M).toNat ≤ B * 2 ^ M → C ≤ B := by
      intro M B hiM hle
      rcases Int.le_total 0 i with hi | hi
      · rw [show (i + M).toNat = i.toNat + M by omega, Nat.pow_add, ← Nat.mul_assoc] at hle
        have h5 := Nat.le_of_mul_le_mul_right hle (Nat.two_pow_pos M)
        rw [show (-i).toNat = 0 by omega, Nat.pow_zero, Nat.mul_one] at hcut
        omega
      · have h7 : 2 ^ M = 2 ^ (-i).toNat * 2 ^ (i + M).toNat := by rw [← Nat.pow_add]; congr 1; omega
        rw [h7, ← Nat.mul_assoc] at hle
        have h5 := Nat.le_of_mul_le_mul_right hle (Nat.two_pow_pos _)
        rw [show i.toNat = 0 by omega, Nat.pow_zero, Nat.mul_one] at hcut
        exact Nat.le_of_mul_le_mul_right (Nat.le_trans hcut h5) (Nat.two_pow_pos _)
    have a1 := signed_abs u m (i + M).toNat
    have a2 := signed_abs u m (i + M').toNat
    have b1 := mul_pow_natAbs x M
    have b2 := mul_pow_natAbs y M'
    by_cases hneg : signed u m (i + M).toNat < 0
    · refine Nat.le_trans (key M x.natAbs (by omega) ?_) (Nat.le_max_left _ _)
      rw [← a1, ← b1]
      omega
    · refine Nat.le_trans (key M' y.natAbs (by omega) ?_) (Nat.le_max_right _ _)
      rw [← a2, ← b2]
      have hu : 0 ≤ signed u m (i + M').toNat := by
        by_cases h0 : m = 0
        · subst h0; unfold signed; simp
        · have : u = false := by
            have h6 : m * 2 ^ (i + M).toNat ≠ 0 := Nat.mul_ne_zero h0 (by have := Nat.two_pow_pos (i + M).toNat; omega)
            rw [signed_sgn (s := u) h6, decide_eq_false hneg]
          rw [this]; unfold signed; rw [if_neg (by simp)]; exact Int.natCast_nonneg _
      omega
/-- A whole number between -300 and 300. -/
def Whl (b : Nat) (n : Int) : Prop := Fz b n ∧ -300 < n ∧ n < 300
abbrev lo300 : Nat := 13867357308859711488
abbrev hi300 : Nat := 4643985272004935680
theorem fz_lo : Fz lo300 (-300) := ⟨true, by decide +kernel, fun _ => by decide, by decide⟩
theorem fz_hi : Fz hi300 300 := ⟨false, by decide +kernel, fun _ => by decide, by decide⟩
theorem whl_in {b : Nat} {n : Int} (h : Whl b n) : double.order b lo300 = some .gt ∧ double.order b hi300 = some .lt := by
  rw [fz_order h.1 fz_lo, fz_order h.1 fz_hi]
  exact ⟨congrArg some (Int.compare_eq_gt.2 h.2.1), congrArg some (Int.compare_eq_lt.2 h.2.2)⟩
theorem whl_cut {b : Nat} (h1 : double.order b lo300 = some .gt) (h2 : double.order b hi300 = some .lt) : ∃ n : Int, floatToIntVal .f64 b .i64 = some n ∧ n.natAbs ≤ 300 ∧ (double.read b).toInt .zero = some n := by
  obtain ⟨n, hn, hl⟩ := order_lt fz_lo fz_hi h1 h2
  have hl2 : n.natAbs ≤ 300 := hl
  refine ⟨n, ?_, hl2, hn⟩
  unfold floatToIntVal
  show (match (double.read b).toInt .zero with | some n => if IntKind.i64.min ≤ n ∧ n ≤ IntKind.i64.max then some n else none | none => none) = some n
  rw [hn]
  show (if _ then _ else _) = _
  rw [if_pos]
  constructor
  · show (-9223372036854775808 : Int) ≤ n; omega
  · show n ≤ (9223372036854775807 : Int); omega
theorem whl_yes {b : Nat} (hb : b < 2 ^ 64) (h1 : double.order b lo300 = some .gt) (h2 : double.order b hi300 = some .lt) {n : Int} (hl : n.natAbs ≤ 300) (h3 : double.order b (floatOfInt .f64 n) = some .eq) : Whl b n := by
  have hz := fz_of_order hb (fz_nat n (by unfold Lt20; omega)) h3
  refine ⟨hz, ?_, ?_⟩
  · rw [fz_order hz fz_lo] at h1
    injection h1 with h1
    exact Int.compare_eq_gt.1 h1
  · rw [fz_order hz fz_hi] at h2
    injection h2 with h2
    exact Int.compare_eq_lt.1 h2
theorem whl_no {b : Nat} {n : Int} (hl : n.natAbs ≤ 300) (hn : (double.read b).toInt .zero = some n) (h3 : ¬ double.order b (floatOfInt .f64 n) = some .eq) (m : Int) : ¬ Whl b m := fun h => by
  rw [fz_int h.1] at hn
  injection hn with hn
  subst hn
  apply h3
  rw [fz_order h.1 (fz_nat m (by unfold Lt20; omega))]
  exact congrArg some (Int.compare_eq_eq.2 rfl)
end Go.Proofs.Ytmipocpajglbaaa
end
