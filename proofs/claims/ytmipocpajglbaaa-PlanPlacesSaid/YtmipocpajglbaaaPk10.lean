/-
  Texts of this claim in one file: PnA, PnP, PnB, PnC, PnD, PnE, PnF, PnG.
-/
import Derived.Test.YtmipocpajglbaaaPk8
import Derived.Test.YtmipocpajglbaaaPk9
import Derived.Test.YtmipocpajglbaaaPk17
section
namespace Go.Proofs.Ytmipocpajglbaaa
open Go Go.RowKit
set_option linter.unusedVariables false
set_option linter.unusedSimpArgs false
/-- A whole number's bits; nought has no minus. -/
abbrev fzN (n : Int) : Nat := floatOfInt .f64 n
def Lt300 (x : Int) : Prop := -300 ≤ x ∧ x ≤ 300
theorem lt300_20 {x : Int} (h : Lt300 x) : Lt20 x := by unfold Lt300 at h; unfold Lt20; omega
theorem fzN_fz {x : Int} (h : Lt300 x) : Fz (fzN x) x := fz_nat x (lt300_20 h)
theorem fz_uniq {r : Nat} {n : Int} (h : Fz r n) (h' : Lt20 n) (h0 : n ≠ 0) : r = fzN n := by
  obtain ⟨s, h1, h2, -⟩ := h
  obtain ⟨t, h3, h4, -⟩ := fz_nat n h'
  show r = floatOfInt .f64 n
  rw [h1, h3, h2 h0, h4 h0]
theorem fsub_none : ∀ i : Fin 601, Ieee.double.sub (fzN ((i.val : Int) - 300)) (fzN ((i.val : Int) - 300)) = some (fzN 0) := by decide +kernel
theorem fadd_none : ∀ i : Fin 601, Ieee.double.add (fzN ((i.val : Int) - 300)) (fzN (-((i.val : Int) - 300))) = some (fzN 0) := by decide +kernel
theorem fzN_sub {a b : Int} (ha : Lt300 a) (hb : Lt300 b) : Ieee.double.sub (fzN a) (fzN b) = some (fzN (a - b)) := by
  have h20 : Lt20 (a - b) := by unfold Lt300 at ha hb; unfold Lt20; omega
  obtain ⟨r, h1, h2⟩ := fz_sub (fzN_fz ha) (fzN_fz hb) (lt20_abs h20)
  by_cases h : a - b = 0
  · have hab : b = a := by omega
    subst hab
    unfold Lt300 at ha
    have := fsub_none ⟨(b + 300).toNat, by omega⟩
    rw [show (((b + 300).toNat : Int) - 300) = b by omega] at this
    rw [h]
    exact this
  · rw [h1, fz_uniq h2 h20 h]
theorem fzN_add {a b : Int} (ha : Lt300 a) (hb : Lt300 b) : Ieee.double.add (fzN a) (fzN b) = some (fzN (a + b)) := by
  have h20 : Lt20 (a + b) := by unfold Lt300 at ha hb; unfold Lt20; omega
  obtain ⟨r, h1, h2⟩ := fz_add (fzN_fz ha) (fzN_fz hb) (lt20_abs h20)
  by_cases h : a + b = 0
  · have hab : b = -a := by omega
    subst hab
    unfold Lt300 at ha
    have := fadd_none ⟨(a + 300).toNat, by omega⟩
    rw [show (((a + 300).toNat : Int) - 300) = a by omega] at this
    rw [h]
    exact this
  · rw [h1, fz_uniq h2 h20 h]
/-- A whole complex number, noughts without a minus. -/
abbrev cN (x y : Int) : Value := .complex .f64 (fzN x) (fzN y)
theorem cN_sub {P : Program} {t : TypeId} {x y x' y' : Int} (h1 : Lt300 x) (h2 : Lt300 y) (h3 : Lt300 x') (h4 : Lt300 y') (w : World) : (binOp .sub t (cN x y) (cN x' y')).run P w = .ok (cN (x - x') (y - y')) w :=
  run_complex_sum w .sub (.inr rfl) t .f64 _ _ _ _ _ _ (by
    show ((Ieee.double.sub (fzN x) (fzN x')).bind fun re => (Ieee.double.sub (fzN y) (fzN y')).bind fun im => some (re, im)) = _
    rw [fzN_sub h1 h3, fzN_sub h2 h4]; rfl)
theorem cN_add {P : Program} {t : TypeId} {x y x' y' : Int} (h1 : Lt300 x) (h2 : Lt300 y) (h3 : Lt300 x') (h4 : Lt300 y') (w : World) : (binOp .add t (cN x y) (cN x' y')).run P w = .ok (cN (x + x') (y + y')) w :=
  run_complex_sum w .add (.inl rfl) t .f64 _ _ _ _ _ _ (by
    show ((Ieee.double.add (fzN x) (fzN x')).bind fun re => (Ieee.double.add (fzN y) (fzN y')).bind fun im => some (re, im)) = _
    rw [fzN_add h1 h3, fzN_add h2 h4]; rfl)
theorem mul_up : ∀ k : Fin 8, cMulBits (fzN ((2 ^ k.val : Nat) : Int)) 0 0 4607182418800017408 = some (fzN 0, fzN ((2 ^ k.val : Nat) : Int)) := by decide +kernel
theorem fzN_zero : fzN 0 = 0 := by decide +kernel
theorem cN_zero : cN 0 0 = .complex .f64 0 0 := by show Value.complex .f64 (fzN 0) (fzN 0) = _; rw [fzN_zero]
theorem str_out {l : Int} (h : ¬ (1 ≤ l ∧ l ≤ 16)) : strX l = 0 ∧ strY l = 0 := by
  unfold strX strY upB strZ
  rw [if_neg h, if_neg h]; exact ⟨rfl, rfl⟩
theorem Stride_out (l : Int) (W : World) (h : ¬ (1 ≤ l ∧ l ≤ 16)) : Calls Try.prog 11 #[.int .i64 l] W fun e w' => e = .returned (cN (strX l) (strY l)) ∧ w' = W := by
  rw [(str_out h).1, (str_out h).2, cN_zero]
  by_cases h1 : l < 1
  · clear h
    go_enter Try.func11, Try.ntmps11
    go_wp2
    go_ret
    exact ⟨rfl, rfl⟩
  · have h2 : 16 < l := by omega
    clear h
    go_enter Try.func11, Try.ntmps11
    go_wp2
    go_ret
    exact ⟨rfl, rfl⟩
theorem Stride_1 (W : World) : Calls Try.prog 11 #[.int .i64 1] W fun e w' => e = .returned (cN (strX 1) (strY 1)) ∧ w' = W := by
  rw [show strX 1 = 1 by decide, show strY 1 = 0 by decide, show cN 1 0 = .complex .f64 (floatOfInt .f64 1) 0 by show Value.complex .f64 (fzN 1) (fzN 0) = _; rw [fzN_zero]]
  go_enter Try.func11, Try.ntmps11
  go_wp2
  go_ret
  exact ⟨rfl, rfl⟩
theorem Stride_2 (W : World) : Calls Try.prog 11 #[.int .i64 2] W fun e w' => e = .returned (cN (strX 2) (strY 2)) ∧ w' = W := by
  rw [show strX 2 = 0 by decide, show strY 2 = 1 by decide, show cN 0 1 = .complex .f64 0 (floatOfInt .f64 1) by show Value.complex .f64 (fzN 0) (fzN 1) = _; rw [fzN_zero]]
  have hm : ∀ w, (binOp .mul 25 (.complex .f64 (floatOfInt .f64 1) 0) (.complex .f64 0 4607182418800017408)).run Try.prog w = .ok (.complex .f64 0 (floatOfInt .f64 1)) w := fun w => run_complex_mul w _ _ _ _ _ _ _ ((mul_up 0).trans (by rw [fzN_zero]; rfl))
  go_enter Try.func11, Try.ntmps11
  go_wp2
  go_ret
  exact ⟨rfl, rfl⟩
theorem Stride_3 (W : World) : Calls Try.prog 11 #[.int .i64 3] W fun e w' => e = .returned (cN (strX 3) (strY 3)) ∧ w' = W := by
  rw [show strX 3 = 2 by decide, show strY 3 = 0 by decide, show cN 2 0 = .complex .f64 (floatOfInt .f64 2) 0 by show Value.complex .f64 (fzN 2) (fzN 0) = _; rw [fzN_zero]]
  go_enter Try.func11, Try.ntmps11
  go_wp2
  go_ret
  exact ⟨rfl, rfl⟩
theorem Stride_4 (W : World) : Calls Try.prog 11 #[.int .i64 4] W fun e w' => e = .returned (cN (strX 4) (strY 4)) ∧ w' = W := by
  rw [show strX 4 = 0 by decide, show strY 4 = 2 by decide, show cN 0 2 = .complex .f64 0 (floatOfInt .f64 2) by show Value.complex .f64 (fzN 0) (fzN 2) = _; rw [fzN_zero]]
  have hm : ∀ w, (binOp .mul 25 (.complex .f64 (floatOfInt .f64 2) 0) (.complex .f64 0 4607182418800017408)).run Try.prog w = .ok (.complex .f64 0 (floatOfInt .f64 2)) w := fun w => run_complex_mul w _ _ _ _ _ _ _ ((mul_up 1).trans (by rw [fzN_zero]; rfl))
  go_enter Try.func11, Try.ntmps11
  go_wp2
  go_ret
  exact ⟨rfl, rfl⟩
theorem Stride_5 (W : World) : Calls Try.prog 11 #[.int .i64 5] W fun e w' => e = .returned (cN (strX 5) (strY 5)) ∧ w' = W := by
  rw [show strX 5 = 4 by decide, show strY 5 = 0 by decide, show cN 4 0 = .complex .f64 (floatOfInt .f64 4) 0 by show Value.complex .f64 (fzN 4) (fzN 0) = _; rw [fzN_zero]]
  go_enter Try.func11, Try.ntmps11
  go_wp2
  go_ret
  exact ⟨rfl, rfl⟩
theorem Stride_6 (W : World) : Calls Try.prog 11 #[.int .i64 6] W fun e w' => e = .returned (cN (strX 6) (strY 6)) ∧ w' = W := by
  rw [show strX 6 = 0 by decide, show strY 6 = 4 by decide, show cN 0 4 = .complex .f64 0 (floatOfInt .f64 4) by show Value.complex .f64 (fzN 0) (fzN 4) = _; rw [fzN_zero]]
  have hm : ∀ w, (binOp .mul 25 (.complex .f64 (floatOfInt .f64 4) 0) (.complex .f64 0 4607182418800017408)).run Try.prog w = .ok (.complex .f64 0 (floatOfInt .f64 4)) w := fun w => run_complex_mul w _ _ _ _ _ _ _ ((mul_up 2).trans (by rw [fzN_zero]; rfl))
  go_enter Try.func11, Try.ntmps11
  go_wp2
  go_ret
  exact ⟨rfl, rfl⟩
theorem Stride_7 (W : World) : Calls Try.prog 11 #[.int .i64 7] W fun e w' => e = .returned (cN (strX 7) (strY 7)) ∧ w' = W := by
  rw [show strX 7 = 8 by decide, show strY 7 = 0 by decide, show cN 8 0 = .complex .f64 (floatOfInt .f64 8) 0 by show Value.complex .f64 (fzN 8) (fzN 0) = _; rw [fzN_zero]]
  go_enter Try.func11, Try.ntmps11
  go_wp2
  go_ret
  exact ⟨rfl, rfl⟩
theorem Stride_8 (W : World) : Calls Try.prog 11 #[.int .i64 8] W fun e w' => e = .returned (cN (strX 8) (strY 8)) ∧ w' = W := by
  rw [show strX 8 = 0 by decide, show strY 8 = 8 by decide, show cN 0 8 = .complex .f64 0 (floatOfInt .f64 8) by show Value.complex .f64 (fzN 0) (fzN 8) = _; rw [fzN_zero]]
  have hm : ∀ w, (binOp .mul 25 (.complex .f64 (floatOfInt .f64 8) 0) (.complex .f64 0 4607182418800017408)).run Try.prog w = .ok (.complex .f64 0 (floatOfInt .f64 8)) w := fun w => run_complex_mul w _ _ _ _ _ _ _ ((mul_up 3).trans (by rw [fzN_zero]; rfl))
  go_enter Try.func11, Try.ntmps11
  go_wp2
  go_ret
  exact ⟨rfl, rfl⟩
theorem Stride_9 (W : World) : Calls Try.prog 11 #[.int .i64 9] W fun e w' => e = .returned (cN (strX 9) (strY 9)) ∧ w' = W := by
  rw [show strX 9 = 16 by decide, show strY 9 = 0 by decide, show cN 16 0 = .complex .f64 (floatOfInt .f64 16) 0 by show Value.complex .f64 (fzN 16) (fzN 0) = _; rw [fzN_zero]]
  go_enter Try.func11, Try.ntmps11
  go_wp2
  go_ret
  exact ⟨rfl, rfl⟩
theorem Stride_10 (W : World) : Calls Try.prog 11 #[.int .i64 10] W fun e w' => e = .returned (cN (strX 10) (strY 10)) ∧ w' = W := by
  rw [show strX 10 = 0 by decide, show strY 10 = 16 by decide, show cN 0 16 = .complex .f64 0 (floatOfInt .f64 16) by show Value.complex .f64 (fzN 0) (fzN 16) = _; rw [fzN_zero]]
  have hm : ∀ w, (binOp .mul 25 (.complex .f64 (floatOfInt .f64 16) 0) (.complex .f64 0 4607182418800017408)).run Try.prog w = .ok (.complex .f64 0 (floatOfInt .f64 16)) w := fun w => run_complex_mul w _ _ _ _ _ _ _ ((mul_up 4).trans (by rw [fzN_zero]; rfl))
  go_enter Try.func11, Try.ntmps11
  go_wp2
  go_ret
  exact ⟨rfl, rfl⟩
theorem Stride_11 (W : World) : Calls Try.prog 11 #[.int .i64 11] W fun e w' => e = .returned (cN (strX 11) (strY 11)) ∧ w' = W := by
  rw [show strX 11 = 32 by decide, show strY 11 = 0 by decide, show cN 32 0 = .complex .f64 (floatOfInt .f64 32) 0 by show Value.complex .f64 (fzN 32) (fzN 0) = _; rw [fzN_zero]]
  go_enter Try.func11, Try.ntmps11
  go_wp2
  go_ret
  exact ⟨rfl, rfl⟩
theorem Stride_12 (W : World) : Calls Try.prog 11 #[.int .i64 12] W fun e w' => e = .returned (cN (strX 12) (strY 12)) ∧ w' = W := by
  rw [show strX 12 = 0 by decide, show strY 12 = 32 by decide, show cN 0 32 = .complex .f64 0 (floatOfInt .f64 32) by show Value.complex .f64 (fzN 0) (fzN 32) = _; rw [fzN_zero]]
  have hm : ∀ w, (binOp .mul 25 (.complex .f64 (floatOfInt .f64 32) 0) (.complex .f64 0 4607182418800017408)).run Try.prog w = .ok (.complex .f64 0 (floatOfInt .f64 32)) w := fun w => run_complex_mul w _ _ _ _ _ _ _ ((mul_up 5).trans (by rw [fzN_zero]; rfl))
  go_enter Try.func11, Try.ntmps11
  go_wp2
  go_ret
  exact ⟨rfl, rfl⟩
theorem Stride_13 (W : World) : Calls Try.prog 11 #[.int .i64 13] W fun e w' => e = .returned (cN (strX 13) (strY 13)) ∧ w' = W := by
  rw [show strX 13 = 64 by decide, show strY 13 = 0 by decide, show cN 64 0 = .complex .f64 (floatOfInt .f64 64) 0 by show Value.complex .f64 (fzN 64) (fzN 0) = _; rw [fzN_zero]]
  go_enter Try.func11, Try.ntmps11
  go_wp2
  go_ret
  exact ⟨rfl, rfl⟩
theorem Stride_14 (W : World) : Calls Try.prog 11 #[.int .i64 14] W fun e w' => e = .returned (cN (strX 14) (strY 14)) ∧ w' = W := by
  rw [show strX 14 = 0 by decide, show strY 14 = 64 by decide, show cN 0 64 = .complex .f64 0 (floatOfInt .f64 64) by show Value.complex .f64 (fzN 0) (fzN 64) = _; rw [fzN_zero]]
  have hm : ∀ w, (binOp .mul 25 (.complex .f64 (floatOfInt .f64 64) 0) (.complex .f64 0 4607182418800017408)).run Try.prog w = .ok (.complex .f64 0 (floatOfInt .f64 64)) w := fun w => run_complex_mul w _ _ _ _ _ _ _ ((mul_up 6).trans (by rw [fzN_zero]; rfl))
  go_enter Try.func11, Try.ntmps11
  go_wp2
  go_ret
  exact ⟨rfl, rfl⟩
theorem Stride_15 (W : World) : Calls Try.prog 11 #[.int .i64 15] W fun e w' => e = .returned (cN (strX 15) (strY 15)) ∧ w' = W := by
  rw [show strX 15 = 128 by decide, show strY 15 = 0 by decide, show cN 128 0 = .complex .f64 (floatOfInt .f64 128) 0 by show Value.complex .f64 (fzN 128) (fzN 0) = _; rw [fzN_zero]]
  go_enter Try.func11, Try.ntmps11
  go_wp2
  go_ret
  exact ⟨rfl, rfl⟩
theorem Stride_16 (W : World) : Calls Try.prog 11 #[.int .i64 16] W fun e w' => e = .returned (cN (strX 16) (strY 16)) ∧ w' = W := by
  rw [show strX 16 = 0 by decide, show strY 16 = 128 by decide, show cN 0 128 = .complex .f64 0 (floatOfInt .f64 128) by show Value.complex .f64 (fzN 0) (fzN 128) = _; rw [fzN_zero]]
  have hm : ∀ w, (binOp .mul 25 (.complex .f64 (floatOfInt .f64 128) 0) (.complex .f64 0 4607182418800017408)).run Try.prog w = .ok (.complex .f64 0 (floatOfInt .f64 128)) w := fun w => run_complex_mul w _ _ _ _ _ _ _ ((mul_up 7).trans (by rw [fzN_zero]; rfl))
  go_enter Try.func11, Try.ntmps11
  go_wp2
  go_ret
  exact ⟨rfl, rfl⟩
theorem Stride_e (l : Int) (W : World) : Calls Try.prog 11 #[.int .i64 l] W fun e w' => e = .returned (cN (strX l) (strY l)) ∧ w' = W := by
  by_cases h : 1 ≤ l ∧ l ≤ 16
  · have hc : l = 1 ∨ l = 2 ∨ l = 3 ∨ l = 4 ∨ l = 5 ∨ l = 6 ∨ l = 7 ∨ l = 8 ∨ l = 9 ∨ l = 10 ∨ l = 11 ∨ l = 12 ∨ l = 13 ∨ l = 14 ∨ l = 15 ∨ l = 16 := by omega
    rcases hc with rfl | rfl | rfl | rfl | rfl | rfl | rfl | rfl | rfl | rfl | rfl | rfl | rfl | rfl | rfl | rfl
    · exact Stride_1 W
    · exact Stride_2 W
    · exact Stride_3 W
    · exact Stride_4 W
    · exact Stride_5 W
    · exact Stride_6 W
    · exact Stride_7 W
    · exact Stride_8 W
    · exact Stride_9 W
    · exact Stride_10 W
    · exact Stride_11 W
    · exact Stride_12 W
    · exact Stride_13 W
    · exact Stride_14 W
    · exact Stride_15 W
    · exact Stride_16 W
  · exact Stride_out l W h
end Go.Proofs.Ytmipocpajglbaaa
end
section
namespace Go.Proofs.Ytmipocpajglbaaa
open Go Go.RowKit
set_option linter.unusedVariables false
set_option linter.unusedSimpArgs false
/-- What the strides up to a level come to along one of both ways. -/
def gA (M l : Nat) : Int := ((2 ^ ((l + M % 2) / 2) : Nat) : Int)
theorem gA_pos (M l : Nat) : 1 ≤ gA M l := by
  unfold gA
  have := Nat.one_le_two_pow (n := (l + M % 2) / 2)
  omega
theorem gA_step (M l : Nat) : gA M (l + 1) = gA M l + (if (l + 1) % 2 = M % 2 then (strN (l + 1) : Int) else 0) := by
  unfold gA strN
  rw [Nat.add_sub_cancel]
  have hM : M % 2 = 0 ∨ M % 2 = 1 := by omega
  obtain ⟨a, ha⟩ : ∃ a, l = 2 * a ∨ l = 2 * a + 1 := ⟨l / 2, by omega⟩
  have h1 : 2 ^ (a + 1) = 2 * 2 ^ a := by rw [Nat.pow_succ, Nat.mul_comm]
  rcases ha with rfl | rfl <;> rcases hM with h | h <;> rw [h]
  · rw [if_neg (by omega), show (2 * a + 1 + 0) / 2 = a by omega, show (2 * a + 0) / 2 = a by omega]; omega
  · rw [if_pos (by omega), show (2 * a + 1 + 1) / 2 = a + 1 by omega, show (2 * a + 1) / 2 = a by omega, show 2 * a / 2 = a by omega, h1]; omega
  · rw [if_pos (by omega), show (2 * a + 1 + 1 + 0) / 2 = a + 1 by omega, show (2 * a + 1 + 0) / 2 = a by omega, h1]; omega
  · rw [if_neg (by omega), show (2 * a + 1 + 1 + 1) / 2 = a + 1 by omega, show (2 * a + 1 + 1) / 2 = a + 1 by omega]; omega
theorem gA_top (L : Nat) : gA (L + 1) L = (strN (L + 1) : Int) := by
  unfold gA strN
  rw [Nat.add_sub_cancel, show (L + (L + 1) % 2) / 2 = L / 2 by omega]
theorem gA_le {M l : Nat} (h : l ≤ 16) : gA M l ≤ 256 := by
  unfold gA
  have : 2 ^ ((l + M % 2) / 2) ≤ 2 ^ 8 := Nat.pow_le_pow_right (by decide) (by omega)
  omega
theorem along_zero (M : Nat) : along M (0, 0) = 0 := by unfold along; split <;> rfl
theorem along_le (M q l k : Nat) : -(gA M (l + k) - gA M l) ≤ along M (plc q l k) ∧ along M (plc q l k) ≤ gA M (l + k) - gA M l := by
  induction k generalizing q l with
  | zero =>
    show _ ≤ along M (0, 0) ∧ along M (0, 0) ≤ _
    rw [along_zero, Nat.add_zero]
    omega
  | succ k ih =>
    have h := ih (q / 2) (l + 1)
    have hs := gA_step M l
    rw [plc_along, show l + (k + 1) = l + 1 + k by omega]
    have hp := strN_pos (l + 1)
    obtain ⟨S, hS⟩ : ∃ S : Int, S = (strN (l + 1) : Int) := ⟨_, rfl⟩
    rw [← hS] at hs hp ⊢
    clear hS ih
    split at hs
    · rw [if_pos (by assumption)]; split <;> omega
    · rw [if_neg (by assumption)]; omega
theorem plc_300 (q l k : Nat) (h : l + k ≤ 16) : (-255 ≤ (plc q l k).1 ∧ (plc q l k).1 ≤ 255) ∧ (-255 ≤ (plc q l k).2 ∧ (plc q l k).2 ≤ 255) := by
  have h1 := along_le 1 q l k
  have h2 := along_le 2 q l k
  have h3 := gA_le (M := 1) h
  have h4 := gA_le (M := 2) h
  have h5 := gA_pos 1 l
  have h6 := gA_pos 2 l
  unfold along at h1 h2
  rw [if_neg (by decide)] at h1
  rw [if_pos (by decide)] at h2
  omega
/-- Along the way of a stride a node below it lies less than the stride off the child above it. -/
theorem along_path (d l k q : Nat) : ∃ t : Int, along (l + d + 1) (plc q l (d + (k + 1))) = along (l + d + 1) (plc (q / 2 ^ d / 2) (l + d + 1) k) + (if q / 2 ^ d % 2 = 0 then -(strN (l + d + 1) : Int) else (strN (l + d + 1) : Int)) + t
    ∧ -(gA (l + d + 1) (l + d) - gA (l + d + 1) l) ≤ t ∧ t ≤ gA (l + d + 1) (l + d) - gA (l + d + 1) l := by
  induction d generalizing l q with
  | zero =>
    refine ⟨0, ?_, by simp only [Nat.add_zero, Int.sub_self]; decide, by simp only [Nat.add_zero, Int.sub_self]; decide⟩
    rw [Nat.zero_add, Nat.pow_zero, Nat.div_one, Nat.add_zero, plc_along, if_pos rfl]
    omega
  | succ d ih =>
    obtain ⟨t, h1, h2, h3⟩ := ih (l + 1) (q / 2)
    have hq : q / 2 / 2 ^ d = q / 2 ^ (d + 1) := by rw [Nat.div_div_eq_div_mul, Nat.pow_succ, Nat.mul_comm]
    rw [hq, show l + 1 + d = l + (d + 1) by omega] at h1
    rw [show l + 1 + d = l + (d + 1) by omega] at h2 h3
    have hs := gA_step (l + (d + 1) + 1) l
    have hp := strN_pos (l + 1)
    rw [show d + 1 + (k + 1) = d + (k + 1) + 1 by omega, plc_along, h1]
    obtain ⟨S, hS⟩ : ∃ S : Int, S = (strN (l + 1) : Int) := ⟨_, rfl⟩
    rw [← hS] at hs hp ⊢
    split at hs
    · rename_i hm
      rw [if_pos hm]
      by_cases h0 : q % 2 = 0
      · exact ⟨t - S, by rw [if_pos h0]; omega, by omega, by omega⟩
      · exact ⟨t + S, by rw [if_neg h0]; omega, by omega, by omega⟩
    · rename_i hm
      rw [if_neg hm]
      exact ⟨t, by omega, by omega, by omega⟩
/-- Which side of a node a node below it stands. -/
theorem along_side (d l k q : Nat) : along (l + d + 1) (plc q l (d + (k + 1))) < along (l + d + 1) (plc (q / 2 ^ d / 2) (l + d + 1) k) ↔ q / 2 ^ d % 2 = 0 := by
  obtain ⟨t, h1, h2, h3⟩ := along_path d l k q
  rw [gA_top] at h2 h3
  have h4 := gA_pos (l + d + 1) l
  rw [h1]
  constructor
  · intro h
    by_cases h0 : q / 2 ^ d % 2 = 0
    · exact h0
    · rw [if_neg h0] at h; omega
  · intro h0
    rw [if_pos h0]; omega
/-- How far z - p goes the way of a level's stride, by the stride. -/
def dotZ (z p : Int × Int) (l : Nat) : Int := (z.1 - p.1) * strX (l : Int) + (z.2 - p.2) * strY (l : Int)
theorem dotZ_is (z p : Int × Int) {l : Nat} (h1 : 1 ≤ l) (h2 : l ≤ 16) : dotZ z p l = (along l z - along l p) * (strN l : Int) := by
  unfold dotZ strX strY upB strZ along
  have hc : 1 ≤ (l : Int) ∧ (l : Int) ≤ 16 := by omega
  simp only [if_pos hc, Int.toNat_natCast]
  clear hc
  by_cases h : l % 2 = 0
  · rw [decide_eq_true (show (l : Int) % 2 = 0 by omega), if_pos rfl, if_pos rfl, if_pos h, if_pos h, Int.mul_zero, Int.zero_add]
  · rw [decide_eq_false (show ¬ (l : Int) % 2 = 0 by omega), if_neg (by decide), if_neg (by decide), if_neg h, if_neg h, Int.mul_zero, Int.add_zero]
theorem dotZ_neg (z p : Int × Int) {l : Nat} (h1 : 1 ≤ l) (h2 : l ≤ 16) : dotZ z p l < 0 ↔ along l z < along l p := by
  rw [dotZ_is z p h1 h2]
  have hp := strN_pos l
  constructor
  · intro h
    apply Int.lt_of_not_ge
    intro hc
    have := Int.mul_nonneg (show 0 ≤ along l z - along l p by omega) (Int.le_of_lt hp)
    omega
  · intro h
    exact Int.mul_neg_of_neg_of_pos (by omega) hp
theorem dot_side (d l k q : Nat) (h : l + d + 1 + k ≤ 16) : dotZ (plc q l (d + (k + 1))) (plc (q / 2 ^ d / 2) (l + d + 1) k) (l + d + 1) < 0 ↔ q / 2 ^ d % 2 = 0 := by
  rw [dotZ_neg _ _ (by omega) (by omega), along_side]
/-- The same by the number: a node below another one is less than it just when it is below its left child. -/
theorem nd_side (d l q : Nat) : nd q l < nd (q / 2 ^ d / 2) (l + d + 1) ↔ q / 2 ^ d % 2 = 0 := by
  unfold nd
  have hq := Nat.div_add_mod q (2 ^ d)
  have hm := Nat.mod_lt q (Nat.two_pow_pos d)
  obtain ⟨Q, hQ⟩ : ∃ Q, Q = q / 2 ^ d := ⟨_, rfl⟩
  obtain ⟨r, hr⟩ : ∃ r, r = q % 2 ^ d := ⟨_, rfl⟩
  rw [← hQ, ← hr] at hq
  rw [← hr] at hm
  rw [← hQ]
  have h1 : 2 ^ (l + d + 1 + 1) = 2 * (2 ^ d * 2 ^ (l + 1)) := by rw [← Nat.pow_add, Nat.mul_comm, ← Nat.pow_succ]; congr 1; omega
  have h2 : 2 ^ (l + d + 1) = 2 ^ d * 2 ^ (l + 1) := by rw [← Nat.pow_add]; congr 1; omega
  have h3 : 2 ^ (l + 1) = 2 * 2 ^ l := by rw [Nat.pow_succ, Nat.mul_comm]
  rw [h1, h2, ← hq, h3]
  have hl := Nat.two_pow_pos l
  obtain ⟨A, hA⟩ : ∃ A, A = 2 ^ l := ⟨_, rfl⟩
  obtain ⟨B, hB⟩ : ∃ B, B = 2 ^ d := ⟨_, rfl⟩
  rw [← hA] at hl ⊢
  rw [← hB] at hm ⊢
  clear hA hB hQ hr hq h1 h2 h3
  have e1 : (B * Q + r) * (2 * A) = Q * (B * (2 * A)) + r * (2 * A) := by rw [Nat.add_mul, Nat.mul_comm B Q, Nat.mul_assoc]
  have e2 : r * (2 * A) + 2 * A ≤ B * (2 * A) := by
    have := Nat.mul_le_mul_right (2 * A) (show r + 1 ≤ B by omega)
    rwa [Nat.add_mul, Nat.one_mul] at this
  rw [e1]
  obtain ⟨C, hC⟩ : ∃ C, C = B * (2 * A) := ⟨_, rfl⟩
  rw [← hC] at e2 ⊢
  obtain ⟨s, hs⟩ : ∃ s, s = r * (2 * A) := ⟨_, rfl⟩
  rw [← hs] at e2 ⊢
  have e3 : Q * C = (Q / 2) * (2 * C) + (Q % 2) * C := by
    conv => lhs; rw [← Nat.div_add_mod Q 2]
    rw [Nat.add_mul, Nat.mul_comm 2 (Q / 2), Nat.mul_assoc]
  rw [e3]
  have e4 : Q % 2 = 0 ∨ Q % 2 = 1 := by omega
  rcases e4 with e4 | e4 <;> rw [e4]
  · rw [Nat.zero_mul]
    constructor
    · intro _; rfl
    · intro _; omega
  · rw [Nat.one_mul]
    constructor
    · intro h; omega
    · intro h; cases h
end Go.Proofs.Ytmipocpajglbaaa
end
section
namespace Go.Proofs.Ytmipocpajglbaaa
open Go Go.RowKit
set_option linter.unusedVariables false
set_option linter.unusedSimpArgs false
theorem run_bits {P : Program} {t : TypeId} {op : BinOp} (hop : op = .mul ∨ op = .add ∨ op = .sub) {a b r : Nat} (h : floatBits op .f64 a b = some r) (w : World) : (binOp op t (.float .f64 a) (.float .f64 b)).run P w = .ok (.float .f64 r) w := by
  rcases hop with rfl | rfl | rfl <;> simp [binOp, run_floatArith w h]
theorem dot_e {a b c d : Nat} {X Y X' Y' : Int} (h : Cz a b X Y) (h' : Cz c d X' Y') (h1 : Lt20 X) (h2 : Lt20 Y) (h3 : Lt20 X') (h4 : Lt20 Y') :
    ∃ r, Fz r (X * X' + Y * Y') ∧ ∀ W, Calls Try.prog 30 #[.complex .f64 a b, .complex .f64 c d] W fun e w' => e = .returned (.float .f64 r) ∧ w' = W := by
  have b1 := abs_mul h1 h3
  have b2 := abs_mul h2 h4
  obtain ⟨m, hm, hm'⟩ := fz_mul h.1 h'.1 (by omega)
  obtain ⟨n, hn, hn'⟩ := fz_mul h.2 h'.2 (by omega)
  obtain ⟨r, hr, hr'⟩ := fz_add hm' hn' (abs_sum b1 b2).1
  refine ⟨r, hr', fun W => ?_⟩
  have e1 : ∀ w, (binOp .mul 27 (.float .f64 a) (.float .f64 c)).run Try.prog w = .ok (.float .f64 m) w := run_bits (.inl rfl) hm
  have e2 : ∀ w, (binOp .mul 27 (.float .f64 b) (.float .f64 d)).run Try.prog w = .ok (.float .f64 n) w := run_bits (.inl rfl) hn
  have e3 : ∀ w, (binOp .add 27 (.float .f64 m) (.float .f64 n)).run Try.prog w = .ok (.float .f64 r) w := run_bits (.inr (.inl rfl)) hr
  clear hr hr' hn hn' hm hm' b1 b2 h h' h1 h2 h3 h4
  go_enter Try.func30, Try.ntmps30
  go_wp2
  go_ret
  exact ⟨rfl, rfl⟩
abbrev SPT : TypeId := 51
abbrev spN (x X Y : Int) : Array Value := #[.int .i64 x, cN X Y]
theorem infoSN {x X Y : Int} : (Try.prog.info? SPT).map (·.size) = some (spN x X Y).size := by kernel_rfl
theorem isNode_e (x X Y : Int) (W : World) : Calls Try.prog 28 #[.agg (spN x X Y)] W fun e w' => e = .returned (.bool (decide (0 ≤ x))) ∧ Below W.heap.size W w' := by
  by_cases h : 0 ≤ x
  · rw [decide_eq_true h]
    go_enter Try.func28, Try.ntmps28
    go_wp2
    go_ret
    exact ⟨rfl, (Below.refl _ _).alloc (Nat.le_refl _) _⟩
  · rw [decide_eq_false h]
    go_enter Try.func28, Try.ntmps28
    go_wp2
    go_ret
    exact ⟨rfl, (Below.refl _ _).alloc (Nat.le_refl _) _⟩
theorem stride_e (x X Y : Int) (W : World) (hx : I64 x) : Calls Try.prog 36 #[.agg (spN x X Y)] W fun e w' => e = .returned (cN (strX (levelZ x)) (strY (levelZ x))) ∧ Below W.heap.size W w' := by
  have HL := hid (fun W => level_ok x W hx)
  have HS := hid (fun W => Stride_e (levelZ x) W)
  obtain ⟨l, hl⟩ : ∃ l, l = levelZ x := ⟨_, rfl⟩
  rw [← hl] at HL HS ⊢
  clear hl
  go_enter Try.func36, Try.ntmps36
  go_wp2_with fail
  refine (HL.out _).mono ?_
  rintro e w1 ⟨rfl, hb⟩
  go_wp2_with fail
  refine (HS.out _).mono ?_
  rintro e w2 ⟨rfl, rfl⟩
  go_wp2
  go_ret
  exact ⟨rfl, ((Below.refl _ _).alloc (Nat.le_refl _) _).trans (hb.mono (by simp))⟩
theorem hasLeft_e {a b : Nat} {zx zy x X Y : Int} (h : Cz a b zx zy) (h1 : Lt20 (zx - X)) (h2 : Lt20 (zy - Y)) (h3 : Lt20 zx) (h4 : Lt20 zy) (hX : Lt300 X) (hY : Lt300 Y) (hx : I64 x) (W : World) (hs1 : Lt300 (strX (levelZ x))) (hs2 : Lt300 (strY (levelZ x))) :
    Calls Try.prog 29 #[.agg (spN x X Y), .complex .f64 a b] W fun e w' => e = .returned (.bool (decide ((zx - X) * strX (levelZ x) + (zy - Y) * strY (levelZ x) < 0))) ∧ Below W.heap.size W w' := by
  have HS := hid (fun W => stride_e x X Y W hx)
  obtain ⟨re, im, hsub, hz⟩ := run_cz_sub (t := 25) (P := Try.prog) h ⟨fzN_fz hX, fzN_fz hY⟩ h3 h4 (lt300_20 hX) (lt300_20 hY)
  obtain ⟨r, hr, hd⟩ := dot_e hz ⟨fzN_fz hs1, fzN_fz hs2⟩ h1 h2 (lt300_20 hs1) (lt300_20 hs2)
  have ho := fz_order hr (fzN_fz (x := 0) (by unfold Lt300; decide))
  rw [fzN_zero] at ho
  have HD := hid hd
  obtain ⟨v, hv⟩ : ∃ v, v = (zx - X) * strX (levelZ x) + (zy - Y) * strY (levelZ x) := ⟨_, rfl⟩
  rw [← hv] at ho ⊢
  have hlt : (FloatKind.f64.format.order r 0 == some .lt) = decide (v < 0) := by
    show (Ieee.double.order r 0 == some .lt) = _
    rw [ho]
    by_cases h0 : v < 0
    · rw [decide_eq_true h0, Int.compare_eq_lt.2 h0]; rfl
    · rw [decide_eq_false h0]
      cases hc : compare v 0 with
      | lt => exact absurd (Int.compare_eq_lt.1 hc) h0
      | eq => rfl
      | gt => rfl
  obtain ⟨sx, hsx⟩ : ∃ v, v = strX (levelZ x) := ⟨_, rfl⟩
  obtain ⟨sy, hsy⟩ : ∃ v, v = strY (levelZ x) := ⟨_, rfl⟩
  rw [← hsx, ← hsy] at HS HD
  have Z := hid (heap_alloc_new W (.cells (spN x X Y) SPT))
  clear hsx hsy hv ho hr hd hz h1 h2 h3 h4 hX hY hs1 hs2 h
  go_enter Try.func29, Try.ntmps29
  go_upto_region 1 with fail
  refine wp_region_grA 8 (by kernel_rfl) (by decide) ?_
  refine wpGrA_take (i := 0) (.complex .f64 a b) rfl (by kernel_rfl) (by kernel_rfl) (fun _ _ _ h => h) (yieldsG_val _ rfl (fun w' hb => by go_simp)) ?_
  (try simp only [Act.put, List.getElem_toArray, List.getElem_cons_succ, List.getElem_cons_zero, List.setIfInBounds_toArray, List.set_cons_zero, List.set_cons_succ])
  refine wpGrA_take (i := 1) (.pointer (some ⟨W.heap.size, 1, none⟩)) rfl (by kernel_rfl) (by kernel_rfl) (fun _ _ _ h => h) (yieldsG_val _ rfl (fun w' hb => by go_simp)) ?_
  (try simp only [Act.put, List.getElem_toArray, List.getElem_cons_succ, List.getElem_cons_zero, List.setIfInBounds_toArray, List.set_cons_zero, List.set_cons_succ])
  refine wpGrA_take (i := 2) (cN X Y) rfl (by kernel_rfl) (by kernel_rfl) (fun _ _ _ h => h) (yieldsG_val _ rfl (fun w' hb => by have hc := cell_of ((hb.block _ (block_lt Z.out)).trans Z.out) 1 _ rfl; go_simp)) ?_
  (try simp only [Act.put, List.getElem_toArray, List.getElem_cons_succ, List.getElem_cons_zero, List.setIfInBounds_toArray, List.set_cons_zero, List.set_cons_succ])
  refine wpGrA_take (i := 3) (.complex .f64 re im) rfl (by kernel_rfl) (by kernel_rfl) (fun _ _ _ h => h) (yieldsG_val _ rfl (fun w' hb => by have hm := hsub w'; go_simp)) ?_
  (try simp only [Act.put, List.getElem_toArray, List.getElem_cons_succ, List.getElem_cons_zero, List.setIfInBounds_toArray, List.set_cons_zero, List.set_cons_succ])
  refine wpGrA_take (i := 4) (.agg (spN x X Y)) rfl (by kernel_rfl) (by kernel_rfl) (fun _ _ _ h => h) (yieldsG_part rfl SPT (.tmp 2) rfl W.heap.size 0 rfl SPT (spN x X Y) (spN x X Y) (0, 0) _ Z.out rfl Try.underlying51 rfl infoSN) ?_
  (try simp only [Act.put, List.getElem_toArray, List.getElem_cons_succ, List.getElem_cons_zero, List.setIfInBounds_toArray, List.set_cons_zero, List.set_cons_succ])
  refine wpGrA_take (i := 5) (cN sx sy) rfl (by kernel_rfl) (by kernel_rfl) (fun _ _ _ h => h) (yieldsG_call rfl (fun w' => by go_simp) (fun w' hb => HS.out w')) ?_
  (try simp only [Act.put, List.getElem_toArray, List.getElem_cons_succ, List.getElem_cons_zero, List.setIfInBounds_toArray, List.set_cons_zero, List.set_cons_succ])
  refine wpGrA_take (i := 6) (.float .f64 r) rfl (by kernel_rfl) (by kernel_rfl) (fun _ _ _ h => h) (yieldsG_call rfl (fun w' => by go_simp) (fun w' hb => (HD.out w').mono fun e w'' h => ⟨h.1, by rw [h.2]; exact Below.refl _ _⟩)) ?_
  (try simp only [Act.put, List.getElem_toArray, List.getElem_cons_succ, List.getElem_cons_zero, List.setIfInBounds_toArray, List.set_cons_zero, List.set_cons_succ])
  refine wpGrA_take (i := 7) (.bool (decide (v < 0))) rfl (by kernel_rfl) (by kernel_rfl) (fun _ _ _ h => h) (yieldsG_val _ rfl (fun w' hb => by go_simp)) ?_
  (try simp only [Act.put, List.getElem_toArray, List.getElem_cons_succ, List.getElem_cons_zero, List.setIfInBounds_toArray, List.set_cons_zero, List.set_cons_succ])
  refine wpGrA_end (by kernel_rfl) ?_
  intro w1 hb
  simp only [List.drop_succ_cons, List.drop_zero]
  go_wp2
  go_ret
  exact ⟨rfl, ((Below.refl _ _).alloc (Nat.le_refl _) _).trans (hb.mono (by simp))⟩
abbrev spZ : Array Value := #[.int .i64 0, .complex .f64 0 0]
theorem spN_one {x X Y : Int} : (spN x X Y).all (·.oneCell') = true := by simp [Value.oneCell']
theorem childL_e (x X Y : Int) (hX : Lt300 X) (hY : Lt300 Y) (hx : I64 x) (W : World) (hs1 : Lt300 (strX (levelZ x))) (hs2 : Lt300 (strY (levelZ x))) :
    Calls Try.prog 27 #[.agg (spN x X Y), .bool true] W fun e w' => e = .returned (.agg (spN (leftZ x) (X - strX (levelZ x)) (Y - strY (levelZ x)))) ∧ Below W.heap.size W w' := by
  have HS := hid (fun W => stride_e x X Y W hx)
  have HL := hid (fun W => left_ok x W hx)
  have hsub := cN_sub (P := Try.prog) (t := 25) hX hY hs1 hs2
  obtain ⟨sx, hsx⟩ : ∃ v, v = strX (levelZ x) := ⟨_, rfl⟩
  obtain ⟨sy, hsy⟩ : ∃ v, v = strY (levelZ x) := ⟨_, rfl⟩
  obtain ⟨y, hy⟩ : ∃ v, v = leftZ x := ⟨_, rfl⟩
  rw [← hsx, ← hsy] at HS hsub ⊢
  rw [← hy] at HL ⊢
  have Z0 := hid (heap_alloc_new W (.cells (spN x X Y) SPT))
  have Z := hid ((Below.heap_alloc (W.alloc (.cells (spN x X Y) SPT)) (.cells spZ SPT) W.heap.size (block_lt Z0.out)).trans Z0.out)
  clear hsx hsy hy hX hY hs1 hs2 Z0
  go_enter Try.func27, Try.ntmps27
  go_upto_region 2 with fail
  refine wp_region_grA 9 (by kernel_rfl) (by decide) ?_
  refine wpGrA_take (i := 0) (.pointer (some ⟨W.heap.size, 0, none⟩)) rfl (by kernel_rfl) (by kernel_rfl) (fun _ _ _ h => h) (yieldsG_val _ rfl (fun w' hb => by go_simp)) ?_
  (try simp only [Act.put, List.getElem_toArray, List.getElem_cons_succ, List.getElem_cons_zero, List.setIfInBounds_toArray, List.set_cons_zero, List.set_cons_succ])
  refine wpGrA_take (i := 1) (.int .i64 x) rfl (by kernel_rfl) (by kernel_rfl) (fun _ _ _ h => h) (yieldsG_val _ rfl (fun w' hb => by have hc := cell_of ((hb.block _ (block_lt Z.out)).trans Z.out) 0 _ rfl; go_simp)) ?_
  (try simp only [Act.put, List.getElem_toArray, List.getElem_cons_succ, List.getElem_cons_zero, List.setIfInBounds_toArray, List.set_cons_zero, List.set_cons_succ])
  refine wpGrA_take (i := 2) (.int .i64 y) rfl (by kernel_rfl) (by kernel_rfl) (fun _ _ _ h => h) (yieldsG_call rfl (fun w' => by go_simp) (fun w' hb => HL.out w')) ?_
  (try simp only [Act.put, List.getElem_toArray, List.getElem_cons_succ, List.getElem_cons_zero, List.setIfInBounds_toArray, List.set_cons_zero, List.set_cons_succ])
  refine wpGrA_take (i := 3) (.pointer (some ⟨W.heap.size, 1, none⟩)) rfl (by kernel_rfl) (by kernel_rfl) (fun _ _ _ h => h) (yieldsG_val _ rfl (fun w' hb => by go_simp)) ?_
  (try simp only [Act.put, List.getElem_toArray, List.getElem_cons_succ, List.getElem_cons_zero, List.setIfInBounds_toArray, List.set_cons_zero, List.set_cons_succ])
  refine wpGrA_take (i := 4) (cN X Y) rfl (by kernel_rfl) (by kernel_rfl) (fun _ _ _ h => h) (yieldsG_val _ rfl (fun w' hb => by have hc := cell_of ((hb.block _ (block_lt Z.out)).trans Z.out) 1 _ rfl; go_simp)) ?_
  (try simp only [Act.put, List.getElem_toArray, List.getElem_cons_succ, List.getElem_cons_zero, List.setIfInBounds_toArray, List.set_cons_zero, List.set_cons_succ])
  refine wpGrA_take (i := 5) (.agg (spN x X Y)) rfl (by kernel_rfl) (by kernel_rfl) (fun _ _ _ h => h) (yieldsG_part rfl SPT (.tmp 2) rfl W.heap.size 0 rfl SPT (spN x X Y) (spN x X Y) (0, 0) _ Z.out rfl Try.underlying51 rfl infoSN) ?_
  (try simp only [Act.put, List.getElem_toArray, List.getElem_cons_succ, List.getElem_cons_zero, List.setIfInBounds_toArray, List.set_cons_zero, List.set_cons_succ])
  refine wpGrA_take (i := 6) (cN sx sy) rfl (by kernel_rfl) (by kernel_rfl) (fun _ _ _ h => h) (yieldsG_call rfl (fun w' => by go_simp) (fun w' hb => HS.out w')) ?_
  (try simp only [Act.put, List.getElem_toArray, List.getElem_cons_succ, List.getElem_cons_zero, List.setIfInBounds_toArray, List.set_cons_zero, List.set_cons_succ])
  refine wpGrA_take (i := 7) (cN (X - sx) (Y - sy)) rfl (by kernel_rfl) (by kernel_rfl) (fun _ _ _ h => h) (yieldsG_val _ rfl (fun w' hb => by have hm := hsub w'; go_simp)) ?_
  (try simp only [Act.put, List.getElem_toArray, List.getElem_cons_succ, List.getElem_cons_zero, List.setIfInBounds_toArray, List.set_cons_zero, List.set_cons_succ])
  refine wpGrA_take (i := 8) (.agg (spN y (X - sx) (Y - sy))) rfl (by kernel_rfl) (by kernel_rfl) (fun _ _ _ h => h) (yieldsG_build2 rfl SPT 0 1 (.tmp 8) (.tmp 13) rfl _ _ rfl rfl _ (by kernel_rfl)) ?_
  (try simp only [Act.put, List.getElem_toArray, List.getElem_cons_succ, List.getElem_cons_zero, List.setIfInBounds_toArray, List.set_cons_zero, List.set_cons_succ])
  refine wpGrA_end (by kernel_rfl) ?_
  intro w1 hb
  have Z2 := (hb.block _ (block_lt (heap_alloc_new (W.alloc (.cells (spN x X Y) SPT)) (.cells spZ SPT)))).trans (heap_alloc_new (W.alloc (.cells (spN x X Y) SPT)) (.cells spZ SPT))
  rw [show (W.alloc (.cells (spN x X Y) SPT)).heap.size = W.heap.size + 1 by simp] at Z2
  have HB := hid ((((Below.refl W.heap.size W).alloc (Nat.le_refl _) (.cells (spN x X Y) SPT)).alloc (by simp) (.cells spZ SPT)).trans (hb.mono (by simp; omega)))
  simp only [List.drop_succ_cons, List.drop_zero]
  refine wpList_store_row rfl SPT (.tmp 4) (.tmp 14) rfl (W.heap.size + 1) (spN y (X - sx) (Y - sy)) rfl rfl SPT spZ Z2 infoSN rfl spN_one ?_
  (try simp only [Act.put, List.getElem_toArray, List.getElem_cons_succ, List.getElem_cons_zero, List.setIfInBounds_toArray, List.set_cons_zero, List.set_cons_succ])
  go_wp2_with fail
  refine bodyPost_ret (v := .agg (spN y (X - sx) (Y - sy))) (results_cell_row rfl _ _ (W.heap.size + 1) SPT _ (0, 0) _ rfl (setRow_heap _ _ _ _ _ _ Z2) Try.underlying51 rfl infoSN) rfl ⟨rfl, HB.out.trans (below_put _ _ _ (by simp))⟩
theorem childR_e (x X Y : Int) (hX : Lt300 X) (hY : Lt300 Y) (hx : I64 x) (W : World) (hs1 : Lt300 (strX (levelZ x))) (hs2 : Lt300 (strY (levelZ x))) :
    Calls Try.prog 27 #[.agg (spN x X Y), .bool false] W fun e w' => e = .returned (.agg (spN (rightZ x) (X + strX (levelZ x)) (Y + strY (levelZ x)))) ∧ Below W.heap.size W w' := by
  have HS := hid (fun W => stride_e x X Y W hx)
  have HL := hid (fun W => right_ok x W hx)
  have hsub := cN_add (P := Try.prog) (t := 25) hX hY hs1 hs2
  obtain ⟨sx, hsx⟩ : ∃ v, v = strX (levelZ x) := ⟨_, rfl⟩
  obtain ⟨sy, hsy⟩ : ∃ v, v = strY (levelZ x) := ⟨_, rfl⟩
  obtain ⟨y, hy⟩ : ∃ v, v = rightZ x := ⟨_, rfl⟩
  rw [← hsx, ← hsy] at HS hsub ⊢
  rw [← hy] at HL ⊢
  have Z0 := hid (heap_alloc_new W (.cells (spN x X Y) SPT))
  have Z := hid ((Below.heap_alloc (W.alloc (.cells (spN x X Y) SPT)) (.cells spZ SPT) W.heap.size (block_lt Z0.out)).trans Z0.out)
  clear hsx hsy hy hX hY hs1 hs2 Z0
  go_enter Try.func27, Try.ntmps27
  go_upto_region 3 with fail
  refine wp_region_grA 9 (by kernel_rfl) (by decide) ?_
  refine wpGrA_take (i := 0) (.pointer (some ⟨W.heap.size, 0, none⟩)) rfl (by kernel_rfl) (by kernel_rfl) (fun _ _ _ h => h) (yieldsG_val _ rfl (fun w' hb => by go_simp)) ?_
  (try simp only [Act.put, List.getElem_toArray, List.getElem_cons_succ, List.getElem_cons_zero, List.setIfInBounds_toArray, List.set_cons_zero, List.set_cons_succ])
  refine wpGrA_take (i := 1) (.int .i64 x) rfl (by kernel_rfl) (by kernel_rfl) (fun _ _ _ h => h) (yieldsG_val _ rfl (fun w' hb => by have hc := cell_of ((hb.block _ (block_lt Z.out)).trans Z.out) 0 _ rfl; go_simp)) ?_
  (try simp only [Act.put, List.getElem_toArray, List.getElem_cons_succ, List.getElem_cons_zero, List.setIfInBounds_toArray, List.set_cons_zero, List.set_cons_succ])
  refine wpGrA_take (i := 2) (.int .i64 y) rfl (by kernel_rfl) (by kernel_rfl) (fun _ _ _ h => h) (yieldsG_call rfl (fun w' => by go_simp) (fun w' hb => HL.out w')) ?_
  (try simp only [Act.put, List.getElem_toArray, List.getElem_cons_succ, List.getElem_cons_zero, List.setIfInBounds_toArray, List.set_cons_zero, List.set_cons_succ])
  refine wpGrA_take (i := 3) (.pointer (some ⟨W.heap.size, 1, none⟩)) rfl (by kernel_rfl) (by kernel_rfl) (fun _ _ _ h => h) (yieldsG_val _ rfl (fun w' hb => by go_simp)) ?_
  (try simp only [Act.put, List.getElem_toArray, List.getElem_cons_succ, List.getElem_cons_zero, List.setIfInBounds_toArray, List.set_cons_zero, List.set_cons_succ])
  refine wpGrA_take (i := 4) (cN X Y) rfl (by kernel_rfl) (by kernel_rfl) (fun _ _ _ h => h) (yieldsG_val _ rfl (fun w' hb => by have hc := cell_of ((hb.block _ (block_lt Z.out)).trans Z.out) 1 _ rfl; go_simp)) ?_
  (try simp only [Act.put, List.getElem_toArray, List.getElem_cons_succ, List.getElem_cons_zero, List.setIfInBounds_toArray, List.set_cons_zero, List.set_cons_succ])
  refine wpGrA_take (i := 5) (.agg (spN x X Y)) rfl (by kernel_rfl) (by kernel_rfl) (fun _ _ _ h => h) (yieldsG_part rfl SPT (.tmp 2) rfl W.heap.size 0 rfl SPT (spN x X Y) (spN x X Y) (0, 0) _ Z.out rfl Try.underlying51 rfl infoSN) ?_
  (try simp only [Act.put, List.getElem_toArray, List.getElem_cons_succ, List.getElem_cons_zero, List.setIfInBounds_toArray, List.set_cons_zero, List.set_cons_succ])
  refine wpGrA_take (i := 6) (cN sx sy) rfl (by kernel_rfl) (by kernel_rfl) (fun _ _ _ h => h) (yieldsG_call rfl (fun w' => by go_simp) (fun w' hb => HS.out w')) ?_
  (try simp only [Act.put, List.getElem_toArray, List.getElem_cons_succ, List.getElem_cons_zero, List.setIfInBounds_toArray, List.set_cons_zero, List.set_cons_succ])
  refine wpGrA_take (i := 7) (cN (X + sx) (Y + sy)) rfl (by kernel_rfl) (by kernel_rfl) (fun _ _ _ h => h) (yieldsG_val _ rfl (fun w' hb => by have hm := hsub w'; go_simp)) ?_
  (try simp only [Act.put, List.getElem_toArray, List.getElem_cons_succ, List.getElem_cons_zero, List.setIfInBounds_toArray, List.set_cons_zero, List.set_cons_succ])
  refine wpGrA_take (i := 8) (.agg (spN y (X + sx) (Y + sy))) rfl (by kernel_rfl) (by kernel_rfl) (fun _ _ _ h => h) (yieldsG_build2 rfl SPT 0 1 (.tmp 17) (.tmp 22) rfl _ _ rfl rfl _ (by kernel_rfl)) ?_
  (try simp only [Act.put, List.getElem_toArray, List.getElem_cons_succ, List.getElem_cons_zero, List.setIfInBounds_toArray, List.set_cons_zero, List.set_cons_succ])
  refine wpGrA_end (by kernel_rfl) ?_
  intro w1 hb
  have Z2 := (hb.block _ (block_lt (heap_alloc_new (W.alloc (.cells (spN x X Y) SPT)) (.cells spZ SPT)))).trans (heap_alloc_new (W.alloc (.cells (spN x X Y) SPT)) (.cells spZ SPT))
  rw [show (W.alloc (.cells (spN x X Y) SPT)).heap.size = W.heap.size + 1 by simp] at Z2
  have HB := hid ((((Below.refl W.heap.size W).alloc (Nat.le_refl _) (.cells (spN x X Y) SPT)).alloc (by simp) (.cells spZ SPT)).trans (hb.mono (by simp; omega)))
  simp only [List.drop_succ_cons, List.drop_zero]
  refine wpList_store_row rfl SPT (.tmp 4) (.tmp 23) rfl (W.heap.size + 1) (spN y (X + sx) (Y + sy)) rfl rfl SPT spZ Z2 infoSN rfl spN_one ?_
  (try simp only [Act.put, List.getElem_toArray, List.getElem_cons_succ, List.getElem_cons_zero, List.setIfInBounds_toArray, List.set_cons_zero, List.set_cons_succ])
  go_wp2_with fail
  refine bodyPost_ret (v := .agg (spN y (X + sx) (Y + sy))) (results_cell_row rfl _ _ (W.heap.size + 1) SPT _ (0, 0) _ rfl (setRow_heap _ _ _ _ _ _ Z2) Try.underlying51 rfl infoSN) rfl ⟨rfl, HB.out.trans (below_put _ _ _ (by simp))⟩
abbrev spB (x : Int) (a b : Nat) : Array Value := #[.int .i64 x, .complex .f64 a b]
theorem infoSB {x : Int} {a b : Nat} : (Try.prog.info? SPT).map (·.size) = some (spB x a b).size := by kernel_rfl
theorem spB_one {x : Int} {a b : Nat} : (spB x a b).all (·.oneCell') = true := by simp [Value.oneCell']
theorem root_e (n : Int) (W : World) (hn : I64 n) : Calls Try.prog 25 #[.int .i64 n] W fun e w' => e = .returned (.agg (spN (rootZ n) 0 0)) ∧ Below W.heap.size W w' := by
  have HR := hid (fun W => root_ok n W hn)
  have hz : ∀ y, spN y 0 0 = #[.int .i64 y, .complex .f64 0 0] := fun y => by show #[Value.int .i64 y, cN 0 0] = _; rw [cN_zero]
  rw [hz]
  obtain ⟨y, hy⟩ : ∃ v, v = rootZ n := ⟨_, rfl⟩
  rw [← hy] at HR ⊢
  clear hy hz
  go_enter Try.func25, Try.ntmps25
  go_wp2_with fail
  refine (HR.out _).mono ?_
  rintro e w1 ⟨rfl, hb⟩
  have Z2 := (hb.block _ (block_lt (heap_alloc_new W (.cells spZ SPT)))).trans (heap_alloc_new W (.cells spZ SPT))
  have HB := hid (((Below.refl W.heap.size W).alloc (Nat.le_refl _) (.cells spZ SPT)).trans (hb.mono (by simp)))
  clear hb
  go_wp2_with (with_reducible refine wpList_store_row rfl SPT (.tmp 2) (.tmp 5) rfl W.heap.size (spB y 0 0) rfl rfl SPT spZ Z2 infoSB rfl spB_one ?_)
  refine bodyPost_ret (v := .agg (spB y 0 0)) (results_cell_row rfl _ _ W.heap.size SPT _ (0, 0) _ rfl (setRow_heap _ _ _ _ _ _ Z2) Try.underlying51 rfl infoSB) rfl ⟨rfl, HB.out.trans (below_put _ _ _ (Nat.le_refl _))⟩
end Go.Proofs.Ytmipocpajglbaaa
end
section
namespace Go.Proofs.Ytmipocpajglbaaa
open Go Go.RowKit
set_option linter.unusedVariables false
set_option linter.unusedSimpArgs false
def fdv (op : BinOp) (a b : Nat) (w : World) : Nat := match floatBits op .f64 a b with | some r => r | none => (Question.nanBits .f64 a b).cut (w.tape w.drawn (.nanBits .f64 a b))
def fdw (op : BinOp) (a b : Nat) (w : World) : World := match floatBits op .f64 a b with | some _ => w | none => w.drew
theorem run_arith_any {P : Program} {op : BinOp} (hop : op = .mul ∨ op = .add ∨ op = .sub) (a b : Nat) (w : World) : (Op.floatArith op .f64 a b).run P w = .ok (.float .f64 (fdv op a b w)) (fdw op a b w) := by
  unfold fdv fdw
  cases h : floatBits op .f64 a b with
  | some r => exact run_floatArith w h
  | none =>
    have hf : (Question.nanBits .f64 a b).forced = false := rfl
    rcases hop with rfl | rfl | rfl <;> (simp only [floatBits] at h; simp [Op.floatArith, h, hf])
theorem run_any {P : Program} {t : TypeId} {op : BinOp} (hop : op = .mul ∨ op = .add ∨ op = .sub) (a b : Nat) (w : World) : (binOp op t (.float .f64 a) (.float .f64 b)).run P w = .ok (.float .f64 (fdv op a b w)) (fdw op a b w) := by
  have h := run_arith_any (P := P) hop a b w
  rcases hop with rfl | rfl | rfl <;> simp [binOp, h]
theorem run_cz_any {P : Program} {t : TypeId} (a b c d : Nat) (w : World) : (binOp .sub t (.complex .f64 a b) (.complex .f64 c d)).run P w = .ok (.complex .f64 (fdv .sub a c w) (fdv .sub b d (fdw .sub a c w))) (fdw .sub b d (fdw .sub a c w)) := by
  have h1 := run_arith_any (P := P) (op := .sub) (.inr (.inr rfl)) a c w
  have h2 := run_arith_any (P := P) (op := .sub) (.inr (.inr rfl)) b d (fdw .sub a c w)
  simp [binOp, Op.complexOp, Op.Complex.arith, h1, h2]
theorem fdw_below (op : BinOp) (a b : Nat) (w : World) (B : Nat) (W : World) (h : Below B W w) : Below B W (fdw op a b w) := by
  unfold fdw
  split
  · exact h
  · exact h.drew
theorem dot_any (a b c d : Nat) (W : World) : Calls Try.prog 30 #[.complex .f64 a b, .complex .f64 c d] W fun e w' => ∃ v, e = .returned v ∧ Below W.heap.size W w' ∧ ∃ r, v = .float .f64 r := by
  have h1 : ∀ a b w, (binOp .mul 27 (.float .f64 a) (.float .f64 b)).run Try.prog w = .ok (.float .f64 (fdv .mul a b w)) (fdw .mul a b w) := run_any (.inl rfl)
  have h2 : ∀ a b w, (binOp .add 27 (.float .f64 a) (.float .f64 b)).run Try.prog w = .ok (.float .f64 (fdv .add a b w)) (fdw .add a b w) := run_any (.inr (.inl rfl))
  go_enter Try.func30, Try.ntmps30
  go_wp2
  go_ret
  refine ⟨_, rfl, ?_, _, rfl⟩
  exact fdw_below _ _ _ _ _ _ (fdw_below _ _ _ _ _ _ (fdw_below _ _ _ _ _ _ (Below.refl _ _)))
section
variable {P : Program} {ops : Array Oper} {Q : Exit → Act → World → Prop} {md : Region.Mode} {n : Nat}
/-- An operation that may draw: the only one that may come up. -/
theorem wpGrA_draws {g f : Nat} {l : List Oper} {i : Nat} {oi : Oper} {listed : Array Bool} {a : Act} {w0 : World} (K : Value → Prop) (hi : ops[i]? = some oi) (hrd : (Region.ready md ops listed == [i] && decide (i < n)) = true)
    (hw : Region.wanted oi (yielded ops a.tmps) = true) (hr : ∀ w', Below w0.heap.size w0 w' → ∃ v w'', (execOp a.eval oi).run P w' = .ok (.value v) w'' ∧ Below w'.heap.size w' w'' ∧ K v)
    (h : ∀ v w'', Below w0.heap.size w0 w'' → K v → wpGrA P md ops Q n (GrL P md ops Q g n l) w'' f (listed.setIfInBounds i true) (a.put oi.dst v)) : wpGrA P md ops Q n (GrL P md ops Q g n l) w0 (f + 1) listed a := fun w hb => by
  simp only [Bool.and_eq_true, decide_eq_true_eq, beq_iff_eq] at hrd
  refine wpGr_ready hrd.1 (by simp) (by simp [hrd.2]) fun j hj => ?_
  simp only [List.mem_singleton] at hj
  subst hj
  unfold wpOp
  simp only [hi]
  rw [if_pos hw]
  refine .inl ?_
  unfold Oper.wp
  obtain ⟨v, w'', hr, hb2, hk⟩ := hr w hb
  rw [hr]
  exact ⟨hb2, fun w3 hw3 => h v w'' (hb.trans (hb2.mono hb.size)) hk w3 hw3⟩
end
theorem hasLeft_any (a b : Nat) (x X Y : Int) (hx : I64 x) (W : World) :
    Calls Try.prog 29 #[.agg (spN x X Y), .complex .f64 a b] W fun e w' => ∃ k : Bool, e = .returned (.bool k) ∧ Below W.heap.size W w' := by
  have HS := hid (fun W => stride_e x X Y W hx)
  obtain ⟨sx, hsx⟩ : ∃ v, v = strX (levelZ x) := ⟨_, rfl⟩
  obtain ⟨sy, hsy⟩ : ∃ v, v = strY (levelZ x) := ⟨_, rfl⟩
  rw [← hsx, ← hsy] at HS
  have Z := hid (heap_alloc_new W (.cells (spN x X Y) SPT))
  clear hsx hsy
  go_enter Try.func29, Try.ntmps29
  go_upto_region 1 with fail
  refine wp_region_grA 8 (by kernel_rfl) (by decide) ?_
  refine wpGrA_take (i := 0) (.complex .f64 a b) rfl (by kernel_rfl) (by kernel_rfl) (fun _ _ _ h => h) (yieldsG_val _ rfl (fun w' hb => by go_simp)) ?_
  (try simp only [Act.put, List.getElem_toArray, List.getElem_cons_succ, List.getElem_cons_zero, List.setIfInBounds_toArray, List.set_cons_zero, List.set_cons_succ])
  refine wpGrA_take (i := 1) (.pointer (some ⟨W.heap.size, 1, none⟩)) rfl (by kernel_rfl) (by kernel_rfl) (fun _ _ _ h => h) (yieldsG_val _ rfl (fun w' hb => by go_simp)) ?_
  (try simp only [Act.put, List.getElem_toArray, List.getElem_cons_succ, List.getElem_cons_zero, List.setIfInBounds_toArray, List.set_cons_zero, List.set_cons_succ])
  refine wpGrA_take (i := 2) (cN X Y) rfl (by kernel_rfl) (by kernel_rfl) (fun _ _ _ h => h) (yieldsG_val _ rfl (fun w' hb => by have hc := cell_of ((hb.block _ (block_lt Z.out)).trans Z.out) 1 _ rfl; go_simp)) ?_
  (try simp only [Act.put, List.getElem_toArray, List.getElem_cons_succ, List.getElem_cons_zero, List.setIfInBounds_toArray, List.set_cons_zero, List.set_cons_succ])
  refine wpGrA_take (i := 4) (.agg (spN x X Y)) rfl (by kernel_rfl) (by kernel_rfl) (fun _ _ _ h => h) (yieldsG_part rfl SPT (.tmp 2) rfl W.heap.size 0 rfl SPT (spN x X Y) (spN x X Y) (0, 0) _ Z.out rfl Try.underlying51 rfl infoSN) ?_
  (try simp only [Act.put, List.getElem_toArray, List.getElem_cons_succ, List.getElem_cons_zero, List.setIfInBounds_toArray, List.set_cons_zero, List.set_cons_succ])
  refine wpGrA_take (i := 5) (cN sx sy) rfl (by kernel_rfl) (by kernel_rfl) (fun _ _ _ h => h) (yieldsG_call rfl (fun w' => by go_simp) (fun w' hb => HS.out w')) ?_
  (try simp only [Act.put, List.getElem_toArray, List.getElem_cons_succ, List.getElem_cons_zero, List.setIfInBounds_toArray, List.set_cons_zero, List.set_cons_succ])
  refine wpGrA_draws (i := 3) (fun v => ∃ re im, v = .complex .f64 re im) rfl (by kernel_rfl) (by rfl) (fun w' hb => ⟨.complex .f64 (fdv .sub a (fzN X) w') (fdv .sub b (fzN Y) (fdw .sub a (fzN X) w')), fdw .sub b (fzN Y) (fdw .sub a (fzN X) w'), by have hm := run_cz_any (P := Try.prog) (t := 25) a b (fzN X) (fzN Y) w'; go_simp, fdw_below _ _ _ _ _ _ (fdw_below _ _ _ _ _ _ (Below.refl _ _)), _, _, rfl⟩) ?_
  rintro v w1 hb1 ⟨re, im, rfl⟩
  (try simp only [Act.put, List.getElem_toArray, List.getElem_cons_succ, List.getElem_cons_zero, List.setIfInBounds_toArray, List.set_cons_zero, List.set_cons_succ])
  refine wpGrA_call (i := 6) (args := #[.complex .f64 re im, cN sx sy]) (fun _ v _ => ∃ r, v = .float .f64 r) rfl (by kernel_rfl) (by rfl) (fun w' => by go_simp) (fun w' hb => dot_any _ _ _ _ w') ?_
  rintro w2 v w3 hb2 hb3 ⟨r, rfl⟩
  (try simp only [Act.put, List.getElem_toArray, List.getElem_cons_succ, List.getElem_cons_zero, List.setIfInBounds_toArray, List.set_cons_zero, List.set_cons_succ])
  refine wpGrA_take (i := 7) (.bool (FloatKind.f64.format.order r 0 == some .lt)) rfl (by kernel_rfl) (by kernel_rfl) (fun _ _ _ h => h) (yieldsG_val _ rfl (fun w' hb => by go_simp)) ?_
  (try simp only [Act.put, List.getElem_toArray, List.getElem_cons_succ, List.getElem_cons_zero, List.setIfInBounds_toArray, List.set_cons_zero, List.set_cons_succ])
  refine wpGrA_end (by kernel_rfl) ?_
  intro w4 hb4
  simp only [List.drop_succ_cons, List.drop_zero]
  have HB := hid (((((Below.refl W.heap.size W).alloc (Nat.le_refl _) (.cells (spN x X Y) SPT)).trans (hb1.mono (by simp))).trans (hb2.mono (Nat.le_trans (by simp) hb1.size))).trans (hb3.mono (Nat.le_trans (Nat.le_trans (by simp) hb1.size) hb2.size)))
  go_wp2
  go_ret
  exact ⟨_, rfl, HB.out.trans (hb4.mono HB.out.size)⟩
end Go.Proofs.Ytmipocpajglbaaa
end
section
namespace Go.Proofs.Ytmipocpajglbaaa
open Go Go.RowKit
set_option linter.unusedVariables false
set_option linter.unusedSimpArgs false
theorem nd_i64 {q l k : Nat} (hq : q < 2 ^ k) (hk : l + k ≤ 16) : I64 (nd q l : Int) := by
  have := nd_lt hq hk
  exact i64_small (by omega) (by omega)
theorem more16 {q k m : Nat} (hq : q < 2 ^ k) (h : k ≤ m) : q < 2 ^ m := Nat.lt_of_lt_of_le hq (Nat.pow_le_pow_right (by decide) h)
theorem levelZ_le {q l k : Nat} (hq : q < 2 ^ k) (hk : l + k ≤ 16) : levelZ (nd q l : Int) = (l : Int) := levelZ_nd (k := 16 - l) (more16 hq (by omega)) (by omega)
theorem str_300 (l : Int) : Lt300 (strX l) ∧ Lt300 (strY l) := by
  unfold strX strY strZ
  have h : (if 1 ≤ l ∧ l ≤ 16 then (strN l.toNat : Int) else 0) ≤ 128 ∧ 0 ≤ (if 1 ≤ l ∧ l ≤ 16 then (strN l.toNat : Int) else 0) := by
    split
    · have := strN_le (l := l.toNat) (by omega); omega
    · omega
  constructor <;> (unfold Lt300; split <;> omega)
theorem plc_lt {q l k : Nat} (h : l + k ≤ 16) : Lt300 (plc q l k).1 ∧ Lt300 (plc q l k).2 := by
  have := plc_300 q l k h
  unfold Lt300
  omega
theorem str_up {l : Nat} (h1 : 1 ≤ l) (h2 : l ≤ 16) : (l % 2 = 0 → strX (l : Int) = 0 ∧ strY (l : Int) = (strN l : Int)) ∧ (l % 2 = 1 → strX (l : Int) = (strN l : Int) ∧ strY (l : Int) = 0) := by
  unfold strX strY upB strZ
  have hc : 1 ≤ (l : Int) ∧ (l : Int) ≤ 16 := by omega
  simp only [if_pos hc, Int.toNat_natCast]
  constructor
  · intro h
    rw [decide_eq_true (show (l : Int) % 2 = 0 by omega), if_pos rfl, if_pos rfl]; exact ⟨rfl, rfl⟩
  · intro h
    rw [decide_eq_false (show ¬ (l : Int) % 2 = 0 by omega), if_neg (by decide), if_neg (by decide)]; exact ⟨rfl, rfl⟩
/-- The children of a node that isn't a leaf. -/
theorem child_go (Q L i : Nat) (b : Bool) (hQ : Q < 2 ^ (i + 1)) (h : L + (i + 1) ≤ 16) (hb : b = decide (Q % 2 = 0)) (W : World) :
    Calls Try.prog 27 #[.agg (spN (nd (Q / 2) (L + 1) : Int) (plc (Q / 2) (L + 1) i).1 (plc (Q / 2) (L + 1) i).2), .bool b] W fun e w' => e = .returned (.agg (spN (nd Q L : Int) (plc Q L (i + 1)).1 (plc Q L (i + 1)).2)) ∧ Below W.heap.size W w' := by
  have hQ2 : Q / 2 < 2 ^ i := by have := Nat.pow_succ 2 i; omega
  have hl := levelZ_le (l := L + 1) hQ2 (by omega)
  have hp := plc_lt (q := Q / 2) (l := L + 1) (k := i) (by omega)
  have hx := nd_i64 (l := L + 1) hQ2 (by omega)
  have hs := str_300 (levelZ (nd (Q / 2) (L + 1) : Int))
  have hu := str_up (l := L + 1) (by omega) (by omega)
  have hpl : plc Q L (i + 1) = if (L + 1) % 2 = 0 then ((plc (Q / 2) (L + 1) i).1, (plc (Q / 2) (L + 1) i).2 + (if Q % 2 = 0 then -(strN (L + 1) : Int) else (strN (L + 1) : Int)))
    else ((plc (Q / 2) (L + 1) i).1 + (if Q % 2 = 0 then -(strN (L + 1) : Int) else (strN (L + 1) : Int)), (plc (Q / 2) (L + 1) i).2) := rfl
  by_cases h0 : Q % 2 = 0
  · rw [hb, decide_eq_true h0]
    have hc := childL_e (nd (Q / 2) (L + 1) : Int) _ _ hp.1 hp.2 hx W hs.1 hs.2
    rw [leftZ_nd (k := 16 - (L + 1)) (more16 hQ2 (by omega)) (by omega), hl, show 2 * (Q / 2) = Q by omega] at hc
    rw [hpl]
    simp only [if_pos h0]
    by_cases h1 : (L + 1) % 2 = 0
    · rw [(hu.1 h1).1, (hu.1 h1).2, Int.sub_zero] at hc
      rw [if_pos h1]; exact hc
    · rw [(hu.2 (by omega)).1, (hu.2 (by omega)).2, Int.sub_zero] at hc
      rw [if_neg h1]; exact hc
  · rw [hb, decide_eq_false h0]
    have hc := childR_e (nd (Q / 2) (L + 1) : Int) _ _ hp.1 hp.2 hx W hs.1 hs.2
    rw [rightZ_nd (k := 16 - (L + 1)) (more16 hQ2 (by omega)) (by omega), hl, show 2 * (Q / 2) + 1 = Q by omega] at hc
    rw [hpl]
    simp only [if_neg h0]
    by_cases h1 : (L + 1) % 2 = 0
    · rw [(hu.1 h1).1, (hu.1 h1).2, Int.add_zero] at hc
      rw [if_pos h1]; exact hc
    · rw [(hu.2 (by omega)).1, (hu.2 (by omega)).2, Int.add_zero] at hc
      rw [if_neg h1]; exact hc
/-- A leaf has none. -/
theorem child_leaf (Q : Nat) (X Y : Int) (b : Bool) (hX : Lt300 X) (hY : Lt300 Y) (hQ : Q < 2 ^ 16) (W : World) :
    Calls Try.prog 27 #[.agg (spN (nd Q 0 : Int) X Y), .bool b] W fun e w' => e = .returned (.agg (spN (-1) X Y)) ∧ Below W.heap.size W w' := by
  have hl := levelZ_le (l := 0) hQ (by omega)
  have hx := nd_i64 (l := 0) hQ (by omega)
  have hs := str_300 (levelZ (nd Q 0 : Int))
  have h0 : strX 0 = 0 ∧ strY 0 = 0 := by decide
  cases b with
  | true =>
    have hc := childL_e (nd Q 0 : Int) X Y hX hY hx W hs.1 hs.2
    rw [leftZ_leaf, hl, show ((0 : Nat) : Int) = 0 from rfl, h0.1, h0.2, Int.sub_zero, Int.sub_zero] at hc
    exact hc
  | false =>
    have hc := childR_e (nd Q 0 : Int) X Y hX hY hx W hs.1 hs.2
    rw [rightZ_leaf, hl, show ((0 : Nat) : Int) = 0 from rfl, h0.1, h0.2, Int.add_zero, Int.add_zero] at hc
    exact hc
theorem nd_root (H : Nat) : (nd 0 H : Int) = ((2 ^ H : Nat) : Int) - 1 := by
  unfold nd
  have := Nat.one_le_two_pow (n := H)
  omega
theorem rootZ_nd {H : Nat} (h : H ≤ 16) : rootZ ((2 ^ H : Nat) : Int) = (nd 0 H : Int) := by
  unfold rootZ; rw [if_pos (fitB_pow h), nd_root]
theorem rootZ_none {n : Int} (h : ¬ fitB n = true) : rootZ n = -1 := by unfold rootZ; rw [if_neg h]
/-- What is beneath the root is in the tree. -/
theorem under_root (x n : Int) : underZ x (rootZ n) = inB x n := by
  by_cases hf : fitB n = true
  · obtain ⟨H, hH, rfl⟩ := (fitB_iff n).1 hf
    by_cases hx : inT x 65536
    · obtain ⟨q, l, k, hq, hk, rfl⟩ := inT_16' hx
      rw [rootZ_nd hH, underZ_nd hq hk (show 0 < 2 ^ (16 - H) from Nat.two_pow_pos _) (by omega)]
      unfold undB loN hiN inB
      rw [hf, Nat.zero_mul, Nat.zero_add, Bool.true_and, decide_eq_true (Nat.zero_le _), Bool.true_and, decide_eq_true (show (0 : Int) ≤ (nd q l : Int) by omega), Bool.true_and, pow1]
      have := Nat.one_le_two_pow (n := H)
      by_cases h1 : nd q l ≤ 2 * 2 ^ H - 2
      · rw [decide_eq_true h1, decide_eq_true (by omega)]
      · rw [decide_eq_false h1, decide_eq_false (by omega)]
    · rw [underZ_no (.inl hx), inB_no (fun h => hx (inT_16 h))]
  · rw [rootZ_none hf, underZ_no (.inr (fun h => by have := (inT_fit h).2.1; omega))]
    unfold inB
    rw [Bool.eq_false_iff.2 hf]; rfl
theorem side_down {q l k d : Nat} (hq : q < 2 ^ k) (hd : d + 1 ≤ k) : q / 2 ^ d < 2 ^ (k - (d + 1) + 1) := by
  rw [show k - (d + 1) + 1 = k - d by omega]
  exact div_lt hq (by omega)
theorem RetCB.of {W w' : World} {X Y : Int} (hX : Lt300 X) (hY : Lt300 Y) (k : Bool) (hb : Below W.heap.size W w') : RetCB W X Y k (.returned (.tuple #[cN X Y, .bool k])) w' := ⟨_, _, rfl, ⟨fzN_fz hX, fzN_fz hY⟩, hb⟩
set_option maxHeartbeats 1000000 in
theorem Place_ok (q l k : Nat) (W : World) (hq : q < 2 ^ k) (hk : l + k ≤ 16) : Calls Try.prog 13 #[.int .i64 (nd q l : Int), .int .i64 ((2 ^ (l + k) : Nat) : Int)] W fun e w' => e = .returned (.tuple #[cN (plc q l k).1 (plc q l k).2, .bool true]) ∧ Below W.heap.size W w' := by
  have hpow := pow_le16 hk
  have hpos := Nat.one_le_two_pow (n := l + k)
  have hnI : I64 ((2 ^ (l + k) : Nat) : Int) := i64_small (by omega) (by omega)
  have hxI := nd_i64 hq hk
  have HR := hid (fun W => root_e ((2 ^ (l + k) : Nat) : Int) W hnI)
  have hroot := rootZ_nd hk
  have HU := hid (fun W => under_ok (nd q l : Int) (rootZ ((2 ^ (l + k) : Nat) : Int)) W hxI (by rw [hroot]; exact nd_i64 (q := 0) (k := 0) (by decide) (by omega)))
  rw [under_root, inB_nd hq hk, hroot] at HU
  rw [hroot] at HR
  have HC : Hid (∀ d, d + 1 ≤ k → ∀ W, Calls Try.prog 27 #[.agg (spN (nd (q / 2 ^ (d + 1)) (l + (d + 1)) : Int) (plc (q / 2 ^ (d + 1)) (l + (d + 1)) (k - (d + 1))).1 (plc (q / 2 ^ (d + 1)) (l + (d + 1)) (k - (d + 1))).2), .bool (decide (q / 2 ^ d % 2 = 0))] W fun e w' => e = .returned (.agg (spN (nd (q / 2 ^ d) (l + d) : Int) (plc (q / 2 ^ d) (l + d) (k - d)).1 (plc (q / 2 ^ d) (l + d) (k - d)).2)) ∧ Below W.heap.size W w') := hid fun d hd W => by
    have h := child_go (q / 2 ^ d) (l + d) (k - (d + 1)) _ (side_down (l := l) hq hd) (by omega) rfl W
    rw [← div_step15, show k - (d + 1) + 1 = k - d by omega] at h
    exact h
  have HN : Hid (∀ d, d + 1 ≤ k → (nd q l ≠ nd (q / 2 ^ (d + 1)) (l + (d + 1))) ∧ (nd q l < nd (q / 2 ^ (d + 1)) (l + (d + 1)) ↔ q / 2 ^ d % 2 = 0)) := hid fun d hd => by
    have h := nd_side d l q
    rw [← div_step15] at h
    refine ⟨fun he => ?_, h⟩
    have h2 := congrArg lv he
    rw [lv_nd, lv_nd] at h2
    omega
  have HP : Hid (nd (q / 2 ^ k) (l + k) = nd 0 (l + k) ∧ plc (q / 2 ^ k) (l + k) (k - k) = (0, 0)) := hid ⟨by rw [Nat.div_eq_of_lt hq], by rw [Nat.sub_self]; rfl⟩
  have HE : Hid (nd (q / 2 ^ 0) (l + 0) = nd q l ∧ plc (q / 2 ^ 0) (l + 0) (k - 0) = plc q l k) := hid ⟨by rw [Nat.pow_zero, Nat.div_one, Nat.add_zero], by rw [Nat.pow_zero, Nat.div_one, Nat.add_zero, Nat.sub_zero]⟩
  obtain ⟨n, hn⟩ : ∃ n : Int, n = ((2 ^ (l + k) : Nat) : Int) := ⟨_, rfl⟩
  obtain ⟨x, hx⟩ : ∃ x : Nat, x = nd q l := ⟨_, rfl⟩
  rw [← hn] at HR ⊢
  rw [← hx] at HU HN HE ⊢
  clear hn hx hpow hpos hnI hxI hroot hq hk
  go_enter Try.func13, Try.ntmps13
  go_wp2_with fail
  refine (HR.out _).mono ?_
  rintro e w1 ⟨rfl, hb⟩
  have HB1 := hid ((hb.alloc hb.size (.cells spZ SPT)).trans (below_put (w1.alloc (.cells spZ SPT)) w1.heap.size (spN (nd 0 (l + k) : Int) 0 0) hb.size))
  have HS1 := hid (setRow_heap (w1.alloc (.cells spZ SPT)) w1.heap.size spZ (spN (nd 0 (l + k) : Int) 0 0) SPT (0, 0) (heap_alloc_new w1 _))
  have HG := hid hb.size
  clear hb
  have hc0 := cell_of HS1.out 0 _ rfl
  go_wp2_with (with_reducible refine wpList_store_row rfl SPT (.tmp 6) (.tmp 8) rfl w1.heap.size (spN (nd 0 (l + k) : Int) 0 0) rfl rfl SPT spZ (heap_alloc_new w1 _) infoSN rfl spN_one ?_)
  generalize (w1.alloc (Obj.cells #[Value.int IntKind.i64 0, Value.complex FloatKind.f64 0 0] SPT)).setRow w1.heap.size (spN (nd 0 (l + k) : Int) 0 0) = w2 at HB1 HS1 hc0 ⊢
  clear hc0
  refine (HU.out _).mono ?_
  rintro e w3 ⟨rfl, hb⟩
  have HB3 := hid (HB1.out.trans (hb.mono HB1.out.size))
  have HS3 := hid ((hb.block _ (block_lt HS1.out)).trans HS1.out)
  clear hb HB1 HS1 HU HR
  go_wp2
  go_loopg [14] k (fun r _ wr => r ≤ k ∧ wr.heap[w1.heap.size]? = some (.cells (spN (nd (q / 2 ^ r) (l + r) : Int) (plc (q / 2 ^ r) (l + r) (k - r)).1 (plc (q / 2 ^ r) (l + r) (k - r)).2) SPT (0, 0)) ∧ Below W.heap.size W wr)
  case atStart => exact ⟨Nat.le_refl _, by rw [HP.out.1, HP.out.2]; exact HS3.out, HB3.out⟩
  case round =>
    clear HS3 HB3
    obtain ⟨hr, hc, hb⟩ := hrel
    cases gk with
    | zero =>
      rw [HE.out.1, HE.out.2] at hc
      have hc0 := cell_of hc 0 _ rfl
      have hc1 := cell_of hc 1 _ rfl
      obtain ⟨X, hX⟩ : ∃ X, X = (plc q l k).1 := ⟨_, rfl⟩
      obtain ⟨Y, hY⟩ : ∃ X, X = (plc q l k).2 := ⟨_, rfl⟩
      rw [← hX, ← hY] at hc0 hc1
      have HX := hid hX; have HY := hid hY
      clear hX hY hc hr HC HN HE HP
      have HBB := hid hb
      clear hb
      go_wp2
      exact bodyPost_ret (v := .tuple #[cN X Y, .bool true]) (by simp [results, Try.results13]) rfl ⟨by rw [← HX.out, ← HY.out], HBB.out⟩
    | succ d =>
      have hd := HC.out d hr
      have hn := HN.out d hr
      have hne : ¬ ((nd (q / 2 ^ (d + 1)) (l + (d + 1)) : Nat) : Int) = (x : Int) := by have := hn.1; omega
      have hlt : decide (x < nd (q / 2 ^ (d + 1)) (l + (d + 1))) = decide (q / 2 ^ d % 2 = 0) := by
        by_cases h : q / 2 ^ d % 2 = 0
        · rw [decide_eq_true h, decide_eq_true (by have := hn.2.2 h; omega)]
        · rw [decide_eq_false h, decide_eq_false (by have := mt hn.2.1 h; omega)]
      obtain ⟨N, hN⟩ : ∃ N, N = nd (q / 2 ^ (d + 1)) (l + (d + 1)) := ⟨_, rfl⟩
      obtain ⟨X, hX⟩ : ∃ X, X = (plc (q / 2 ^ (d + 1)) (l + (d + 1)) (k - (d + 1))).1 := ⟨_, rfl⟩
      obtain ⟨Y, hY⟩ : ∃ X, X = (plc (q / 2 ^ (d + 1)) (l + (d + 1)) (k - (d + 1))).2 := ⟨_, rfl⟩
      rw [← hN] at hd hne hlt hc
      rw [← hX, ← hY] at hd hc
      have HD := hid hd; have HBB := hid hb; have HR := hid hr; have HCC := hid hc
      have hc0 := cell_of hc 0 _ rfl
      clear hN hX hY hd hb hr hn hc
      obtain ⟨bl, hbl⟩ : ∃ bl, bl = decide (q / 2 ^ d % 2 = 0) := ⟨_, rfl⟩
      rw [← hbl] at hlt HD
      clear hbl
      have hne2 : ((N : Int) != (x : Int)) = true := by rw [bne_iff_ne]; exact hne
      go_wp2_with (with_reducible refine wpList_load_row rfl SPT (.tmp 6) rfl w1.heap.size rfl SPT (spN N X Y) (0, 0) _ HCC.out Try.underlying51 rfl infoSN ?_)
      refine (HD.out _).mono ?_
      rintro e w4 ⟨rfl, hb⟩
      have H4 := (hb.block _ (block_lt HCC.out)).trans HCC.out
      have HB4 := hid ((HBB.out.trans (hb.mono HBB.out.size)).trans (below_put w4 w1.heap.size (spN (nd (q / 2 ^ d) (l + d) : Int) (plc (q / 2 ^ d) (l + d) (k - d)).1 (plc (q / 2 ^ d) (l + d) (k - d)).2) (HG.out)))
      have HS4 := hid (setRow_heap w4 w1.heap.size (spN N X Y) (spN (nd (q / 2 ^ d) (l + d) : Int) (plc (q / 2 ^ d) (l + d) (k - d)).1 (plc (q / 2 ^ d) (l + d) (k - d)).2) SPT (0, 0) H4)
      clear hb HBB HCC HD hne hne2 hlt hc0
      go_wp2_with (with_reducible refine wpList_store_row rfl SPT (.tmp 6) (.tmp 23) rfl w1.heap.size (spN (nd (q / 2 ^ d) (l + d) : Int) (plc (q / 2 ^ d) (l + d) (k - d)).1 (plc (q / 2 ^ d) (l + d) (k - d)).2) rfl rfl SPT (spN N X Y) H4 infoSN rfl spN_one ?_)
      go_roundg (d)
      case measure => omega
      case rel => exact ⟨by have := HR.out; omega, HS4.out, HB4.out⟩
end Go.Proofs.Ytmipocpajglbaaa
end
section
namespace Go.Proofs.Ytmipocpajglbaaa
open Go Go.RowKit
set_option linter.unusedVariables false
set_option linter.unusedSimpArgs false
theorem Place_no (x n : Int) (W : World) (hx : I64 x) (hn : I64 n) (h : inB x n = false) : Calls Try.prog 13 #[.int .i64 x, .int .i64 n] W fun e w' => e = .returned (.tuple #[cN 0 0, .bool false]) ∧ Below W.heap.size W w' := by
  have HR := hid (fun W => root_e n W hn)
  have hr : I64 (rootZ n) := by
    by_cases hf : fitB n = true
    · obtain ⟨H, hH, rfl⟩ := (fitB_iff n).1 hf
      rw [rootZ_nd hH]; exact nd_i64 (q := 0) (k := 0) (by decide) (by omega)
    · rw [rootZ_none hf]; exact i64_small (by decide) (by decide)
  have HU := hid (fun W => under_ok x (rootZ n) W hx hr)
  rw [under_root, h] at HU
  obtain ⟨y, hy⟩ : ∃ y, y = rootZ n := ⟨_, rfl⟩
  rw [← hy] at HR HU
  rw [cN_zero]
  clear hy hr h hx hn
  go_enter Try.func13, Try.ntmps13
  go_wp2_with fail
  refine (HR.out _).mono ?_
  rintro e w1 ⟨rfl, hb⟩
  have HB1 := hid ((hb.alloc hb.size (.cells spZ SPT)).trans (below_put (w1.alloc (.cells spZ SPT)) w1.heap.size (spN y 0 0) hb.size))
  have HS1 := hid (setRow_heap (w1.alloc (.cells spZ SPT)) w1.heap.size spZ (spN y 0 0) SPT (0, 0) (heap_alloc_new w1 _))
  clear hb
  have hc0 := cell_of HS1.out 0 _ rfl
  go_wp2_with (with_reducible refine wpList_store_row rfl SPT (.tmp 6) (.tmp 8) rfl w1.heap.size (spN y 0 0) rfl rfl SPT spZ (heap_alloc_new w1 _) infoSN rfl spN_one ?_)
  refine (HU.out _).mono ?_
  rintro e w3 ⟨rfl, hb⟩
  have HB3 := hid (HB1.out.trans (hb.mono HB1.out.size))
  clear hb
  go_wp2
  exact bodyPost_ret (v := .tuple #[.complex .f64 0 0, .bool false]) (by simp [results, Try.results13]) rfl ⟨rfl, HB3.out⟩
theorem place_ok : PlPlace := fun x n W hx hn => by
  by_cases h : inB x n = true
  · obtain ⟨q, l, k, hq, hk, rfl, rfl⟩ := inB_iff.1 h
    rw [placeZ_nd hq hk, h]
    refine (Place_ok q l k W hq hk).mono ?_
    rintro e w' ⟨rfl, hb⟩
    exact RetCB.of (plc_lt hk).1 (plc_lt hk).2 true hb
  · have h2 : inB x n = false := by rw [Bool.eq_false_iff]; exact h
    have h3 : placeZ x n = (0, 0) := by unfold placeZ; rw [if_neg h]
    rw [h3, h2]
    refine (Place_no x n W hx hn h2).mono ?_
    rintro e w' ⟨rfl, hb⟩
    exact RetCB.of (by unfold Lt300; decide) (by unfold Lt300; decide) false hb
/-- What At's loop is handed: a spot in memory of the call's own. -/
def AtS (W wr : World) (v : Value) (x X Y : Int) : Prop := ∃ p, v = .pointer (some ⟨p, 0, none⟩) ∧ W.heap.size ≤ p ∧ wr.heap[p]? = some (.cells (spN x X Y) SPT (0, 0)) ∧ Below W.heap.size W wr
set_option maxHeartbeats 1000000 in
/-- Nobody stands there. -/
theorem At_out (a b : Nat) (H : Nat) (W : World) (hH : H ≤ 16) (hno : ∀ Q L k, Q < 2 ^ k → L + k = H → (FloatKind.f64.format.order (fzN (plc Q L k).1) a == some .eq && FloatKind.f64.format.order (fzN (plc Q L k).2) b == some .eq) = false) :
    Calls Try.prog 14 #[.complex .f64 a b, .int .i64 ((2 ^ H : Nat) : Int)] W (RetIB W 0 false) := by
  have hpow := pow_le16 hH
  have hpos := Nat.one_le_two_pow (n := H)
  have hnI : I64 ((2 ^ H : Nat) : Int) := i64_small (by omega) (by omega)
  have HR := hid (fun W => root_e ((2 ^ H : Nat) : Int) W hnI)
  rw [rootZ_nd hH] at HR
  have HNO := hid hno
  have HH := hid hH
  obtain ⟨n, hn⟩ : ∃ n : Int, n = ((2 ^ H : Nat) : Int) := ⟨_, rfl⟩
  rw [← hn] at HR ⊢
  clear hn hpow hpos hnI hno hH
  go_enter Try.func14, Try.ntmps14
  go_wp2_with fail
  refine (HR.out _).mono ?_
  rintro e w1 ⟨rfl, hb⟩
  have HB1 := hid ((hb.alloc hb.size (.cells spZ SPT)).trans (below_put (w1.alloc (.cells spZ SPT)) w1.heap.size (spN (nd 0 H : Int) 0 0) hb.size))
  have HS1 := hid (setRow_heap (w1.alloc (.cells spZ SPT)) w1.heap.size spZ (spN (nd 0 H : Int) 0 0) SPT (0, 0) (heap_alloc_new w1 _))
  have HG := hid hb.size
  clear hb HR
  go_wp2_with (with_reducible refine wpList_store_row rfl SPT (.tmp 6) (.tmp 8) rfl w1.heap.size (spN (nd 0 H : Int) 0 0) rfl rfl SPT spZ (heap_alloc_new w1 _) infoSN rfl spN_one ?_)
  generalize (w1.alloc (Obj.cells #[Value.int IntKind.i64 0, Value.complex FloatKind.f64 0 0] SPT)).setRow w1.heap.size (spN (nd 0 H : Int) 0 0) = w2 at HB1 HS1 ⊢
  simp only [Act.put]
  go_loopg [6] (H + 1) (fun r v wr => (r = 0 ∧ ∃ X Y, AtS W wr v (-1) X Y) ∨ ∃ Q L k, r = L + 1 ∧ Q < 2 ^ k ∧ L + k = H ∧ AtS W wr v (nd Q L : Int) (plc Q L k).1 (plc Q L k).2)
  case atStart => exact .inr ⟨0, H, 0, rfl, by decide, rfl, w1.heap.size, rfl, HG.out, HS1.out, HB1.out⟩
  case round =>
    clear HB1 HS1 HG
    rcases hrel with ⟨rfl, X, Y, p, rfl, hp, hc, hb⟩ | ⟨Q, L, k, rfl, hQ, hL, p, rfl, hp, hc, hb⟩
    · have HC := hid hc; have HB := hid hb
      have HI := hid (fun W => isNode_e (-1) X Y W)
      clear hc hb
      go_wp2_with (with_reducible refine wpList_load_row rfl SPT (.tmp 6) rfl p rfl SPT (spN (-1) X Y) (0, 0) _ HC.out Try.underlying51 rfl infoSN ?_)
      refine (HI.out _).mono ?_
      rintro e w4 ⟨rfl, hb⟩
      have HB4 := hid (HB.out.trans (hb.mono HB.out.size))
      clear hb
      rw [show decide ((0 : Int) ≤ -1) = false from rfl]
      go_wp2
      exact bodyPost_ret (v := .tuple #[.int .i64 0, .bool false]) (by simp [results, Try.results14]) rfl ⟨rfl, HB4.out⟩
    · have HC := hid hc; have HB := hid hb
      have HI := hid (fun W => isNode_e (nd Q L : Int) (plc Q L k).1 (plc Q L k).2 W)
      rw [decide_eq_true (show (0 : Int) ≤ (nd Q L : Int) by omega)] at HI
      have hnq := HNO.out Q L k hQ hL
      have hpl := plc_lt (q := Q) (l := L) (k := k) (by have := HH.out; omega)
      have HHL := hid (fun W => hasLeft_any a b (nd Q L : Int) (plc Q L k).1 (plc Q L k).2 (nd_i64 hQ (by have := HH.out; omega)) W)
      have HCH : Hid (∀ (bl : Bool), ∃ (r : Nat) (x X Y : Int), r < L + 1 ∧ (∀ wr v, AtS W wr v x X Y → (r = 0 ∧ ∃ X Y, AtS W wr v (-1) X Y) ∨ ∃ Q L k, r = L + 1 ∧ Q < 2 ^ k ∧ L + k = H ∧ AtS W wr v (nd Q L : Int) (plc Q L k).1 (plc Q L k).2) ∧ ∀ W, Calls Try.prog 27 #[.agg (spN (nd Q L : Int) (plc Q L k).1 (plc Q L k).2), .bool bl] W fun e w' => e = .returned (.agg (spN x X Y)) ∧ Below W.heap.size W w') := hid fun bl => by
        cases L with
        | zero => exact ⟨0, -1, _, _, by omega, fun wr v h => .inl ⟨rfl, _, _, h⟩, fun W => child_leaf Q _ _ bl hpl.1 hpl.2 (more16 hQ (by have := HH.out; omega)) W⟩
        | succ L =>
          obtain ⟨Q', hQ', hd, hm⟩ : ∃ Q', Q' < 2 ^ (k + 1) ∧ Q' / 2 = Q ∧ bl = decide (Q' % 2 = 0) := by
            have := Nat.pow_succ 2 k
            cases bl with
            | true => exact ⟨2 * Q, by omega, by omega, by rw [decide_eq_true (by omega)]⟩
            | false => exact ⟨2 * Q + 1, by omega, by omega, by rw [decide_eq_false (by omega)]⟩
          subst hd
          exact ⟨L + 1, _, _, _, by omega, fun wr v h => .inr ⟨Q', L, k + 1, rfl, hQ', by omega, h⟩, fun W => child_go Q' L k bl hQ' (by have := HH.out; omega) hm W⟩
      have HP := hid hp; have HK := hid (⟨hQ, hL⟩ : Q < 2 ^ k ∧ L + k = H)
      clear hc hb hQ hL hpl hp HNO
      obtain ⟨N, hN⟩ : ∃ N : Int, N = (nd Q L : Int) := ⟨_, rfl⟩
      obtain ⟨X, hX⟩ : ∃ X, X = (plc Q L k).1 := ⟨_, rfl⟩
      obtain ⟨Y, hY⟩ : ∃ X, X = (plc Q L k).2 := ⟨_, rfl⟩
      rw [← hN, ← hX, ← hY] at HI HHL HC HCH
      rw [← hX, ← hY] at hnq
      clear hN hX hY
      have heq : ∀ w, (binOp .eql 25 (.complex .f64 (fzN X) (fzN Y)) (.complex .f64 a b)).run Try.prog w = .ok (.bool false) w := fun w => by rw [run_eql_complex, hnq]
      clear hnq
      go_wp2_with (with_reducible refine wpList_load_row rfl SPT (.tmp 6) rfl p rfl SPT (spN N X Y) (0, 0) _ HC.out Try.underlying51 rfl infoSN ?_)
      refine (HI.out _).mono ?_
      rintro e w4 ⟨rfl, hb⟩
      have HB4 := hid (HB.out.trans (hb.mono HB.out.size))
      have HC4 := hid ((hb.block _ (block_lt HC.out)).trans HC.out)
      clear hb HB HC
      have hc1 := cell_of HC4.out 1 _ rfl
      have HB5 := hid ((HB4.out.alloc HB4.out.size (.cells spZ SPT)).trans (below_put (w4.alloc (.cells spZ SPT)) w4.heap.size (spN N X Y) HB4.out.size))
      have HS5 := hid (setRow_heap (w4.alloc (.cells spZ SPT)) w4.heap.size spZ (spN N X Y) SPT (0, 0) (heap_alloc_new w4 _))
      have HG5 := hid HB4.out.size
      clear HB4
      go_upto_region 3 with (first | (with_reducible refine wpList_load_row rfl SPT (.tmp 6) rfl p rfl SPT (spN N X Y) (0, 0) _ HC4.out Try.underlying51 rfl infoSN ?_) | (with_reducible refine wpList_store_row rfl SPT (.tmp 6) (.tmp 22) rfl w4.heap.size (spN N X Y) rfl rfl SPT spZ (heap_alloc_new w4 _) infoSN rfl spN_one ?_))
      generalize (w4.alloc (Obj.cells #[Value.int IntKind.i64 0, Value.complex FloatKind.f64 0 0] SPT)).setRow w4.heap.size (spN N X Y) = w5 at HB5 HS5 ⊢
      clear hc1 heq HC4 HI
      simp only [Act.put]
      refine wp_region_grA 5 (by kernel_rfl) (by decide) ?_
      refine wpGrA_take (i := 0) (.agg (spN N X Y)) rfl (by kernel_rfl) (by kernel_rfl) (fun _ _ _ h => h) (yieldsG_part rfl SPT (.tmp 6) rfl w4.heap.size 0 rfl SPT (spN N X Y) (spN N X Y) (0, 0) _ HS5.out rfl Try.underlying51 rfl infoSN) ?_
      (try simp only [Act.put, List.getElem_toArray, List.getElem_cons_succ, List.getElem_cons_zero, List.setIfInBounds_toArray, List.set_cons_zero, List.set_cons_succ])
      refine wpGrA_take (i := 1) (.agg (spN N X Y)) rfl (by kernel_rfl) (by kernel_rfl) (fun _ _ _ h => h) (yieldsG_part rfl SPT (.tmp 6) rfl w4.heap.size 0 rfl SPT (spN N X Y) (spN N X Y) (0, 0) _ HS5.out rfl Try.underlying51 rfl infoSN) ?_
      (try simp only [Act.put, List.getElem_toArray, List.getElem_cons_succ, List.getElem_cons_zero, List.setIfInBounds_toArray, List.set_cons_zero, List.set_cons_succ])
      refine wpGrA_take (i := 2) (.complex .f64 a b) rfl (by kernel_rfl) (by kernel_rfl) (fun _ _ _ h => h) (yieldsG_val _ rfl (fun w' hb => by go_simp)) ?_
      (try simp only [Act.put, List.getElem_toArray, List.getElem_cons_succ, List.getElem_cons_zero, List.setIfInBounds_toArray, List.set_cons_zero, List.set_cons_succ])
      refine wpGrA_call (i := 3) (args := #[.agg (spN N X Y), .complex .f64 a b]) (fun _ v _ => ∃ bl : Bool, v = .bool bl) rfl (by kernel_rfl) (by rfl) (fun w' => by go_simp) (fun w' hb => (HHL.out w').mono fun e w'' ⟨bl, h1, h2⟩ => ⟨_, h1, h2, bl, rfl⟩) ?_
      rintro w6 v w7 hb6 hb7 ⟨bl, rfl⟩
      (try simp only [Act.put, List.getElem_toArray, List.getElem_cons_succ, List.getElem_cons_zero, List.setIfInBounds_toArray, List.set_cons_zero, List.set_cons_succ])
      obtain ⟨r, x2, X2, Y2, hr, hrel, hch⟩ := HCH.out bl
      refine wpGrA_take (i := 4) (.agg (spN x2 X2 Y2)) rfl (by kernel_rfl) (by kernel_rfl) (fun _ _ _ h => h) (yieldsG_call rfl (fun w' => by go_simp) (fun w' hb => hch w')) ?_
      (try simp only [Act.put, List.getElem_toArray, List.getElem_cons_succ, List.getElem_cons_zero, List.setIfInBounds_toArray, List.set_cons_zero, List.set_cons_succ])
      refine wpGrA_end (by kernel_rfl) ?_
      intro w8 hb8
      simp only [List.drop_succ_cons, List.drop_zero]
      have hb58 := (hb6.trans (hb7.mono hb6.size)).trans (hb8.mono (Nat.le_trans hb6.size hb7.size))
      have H8 := (hb58.block _ (block_lt HS5.out)).trans HS5.out
      have HB8 := hid ((HB5.out.trans (hb58.mono HB5.out.size)).trans (below_put w8 w4.heap.size (spN x2 X2 Y2) HG5.out))
      have HS8 := hid (setRow_heap w8 w4.heap.size (spN N X Y) (spN x2 X2 Y2) SPT (0, 0) H8)
      clear hb6 hb7 hb8 hb58 HB5 HS5 hch
      go_wp2_with (with_reducible refine wpList_store_row rfl SPT (.tmp 6) (.tmp 15) rfl w4.heap.size (spN x2 X2 Y2) rfl rfl SPT (spN N X Y) H8 infoSN rfl spN_one ?_)
      simp only [Act.put]
      go_roundg (r)
      case measure => omega
      case rel => exact hrel _ _ ⟨w4.heap.size, rfl, HG5.out, HS8.out, HB8.out⟩
end Go.Proofs.Ytmipocpajglbaaa
end
section
namespace Go.Proofs.Ytmipocpajglbaaa
open Go Go.RowKit
set_option linter.unusedVariables false
set_option linter.unusedSimpArgs false
set_option maxHeartbeats 1000000 in
/-- No tree has so many leaves. -/
theorem At_no (a b : Nat) (n : Int) (W : World) (hn : I64 n) (hf : ¬ fitB n = true) : Calls Try.prog 14 #[.complex .f64 a b, .int .i64 n] W (RetIB W 0 false) := by
  have HR := hid (fun W => root_e n W hn)
  rw [rootZ_none hf] at HR
  have HI := hid (fun W => isNode_e (-1) 0 0 W)
  clear hn hf
  go_enter Try.func14, Try.ntmps14
  go_wp2_with fail
  refine (HR.out _).mono ?_
  rintro e w1 ⟨rfl, hb⟩
  have HB1 := hid ((hb.alloc hb.size (.cells spZ SPT)).trans (below_put (w1.alloc (.cells spZ SPT)) w1.heap.size (spN (-1) 0 0) hb.size))
  have HS1 := hid (setRow_heap (w1.alloc (.cells spZ SPT)) w1.heap.size spZ (spN (-1) 0 0) SPT (0, 0) (heap_alloc_new w1 _))
  have HG := hid hb.size
  clear hb HR
  go_wp2_with (with_reducible refine wpList_store_row rfl SPT (.tmp 6) (.tmp 8) rfl w1.heap.size (spN (-1) 0 0) rfl rfl SPT spZ (heap_alloc_new w1 _) infoSN rfl spN_one ?_)
  generalize (w1.alloc (Obj.cells #[Value.int IntKind.i64 0, Value.complex FloatKind.f64 0 0] SPT)).setRow w1.heap.size (spN (-1) 0 0) = w2 at HB1 HS1 ⊢
  simp only [Act.put]
  go_loopg [6] 0 (fun r v wr => AtS W wr v (-1) 0 0)
  case atStart => exact ⟨w1.heap.size, rfl, HG.out, HS1.out, HB1.out⟩
  case round =>
    clear HB1 HS1 HG
    rcases hrel with ⟨p, rfl, hp, hc, hb⟩
    have HC := hid hc; have HB := hid hb
    clear hc hb
    go_wp2_with (with_reducible refine wpList_load_row rfl SPT (.tmp 6) rfl p rfl SPT (spN (-1) 0 0) (0, 0) _ HC.out Try.underlying51 rfl infoSN ?_)
    refine (HI.out _).mono ?_
    rintro e w4 ⟨rfl, hb⟩
    have HB4 := hid (HB.out.trans (hb.mono HB.out.size))
    clear hb
    rw [show decide ((0 : Int) ≤ -1) = false from rfl]
    go_wp2
    exact bodyPost_ret (v := .tuple #[.int .i64 0, .bool false]) (by simp [results, Try.results14]) rfl ⟨rfl, HB4.out⟩
theorem cz_eql {P : Program} {t : TypeId} {a b : Nat} {X Y : Int} {k : Bool} {x y : Int} (h : Cz a b x y) (hX : Lt300 X) (hY : Lt300 Y) (hk : k = (decide (X = x) && decide (Y = y))) (w : World) : (binOp .eql t (.complex .f64 (fzN X) (fzN Y)) (.complex .f64 a b)).run P w = .ok (.bool k) w := by
  rw [hk]; exact run_cz_eql (h := ⟨fzN_fz hX, fzN_fz hY⟩) (h' := h) (w := w) (t := t)
theorem lt20_sub {z X : Int} (h1 : Lt300 z) (h2 : Lt300 X) : Lt20 (z - X) := by unfold Lt300 at h1 h2; unfold Lt20; omega
set_option maxHeartbeats 1000000 in
/-- A node's place. -/
theorem At_in (a b : Nat) (q l k : Nat) (W : World) (hq : q < 2 ^ k) (hk : l + k ≤ 16) (hz : Cz a b (plc q l k).1 (plc q l k).2) :
    Calls Try.prog 14 #[.complex .f64 a b, .int .i64 ((2 ^ (l + k) : Nat) : Int)] W (RetIB W (nd q l : Int) true) := by
  have hpow := pow_le16 hk
  have hpos := Nat.one_le_two_pow (n := l + k)
  have hnI : I64 ((2 ^ (l + k) : Nat) : Int) := i64_small (by omega) (by omega)
  have HR := hid (fun W => root_e ((2 ^ (l + k) : Nat) : Int) W hnI)
  rw [rootZ_nd hk] at HR
  have HP : Hid (nd (q / 2 ^ k) (l + k) = nd 0 (l + k) ∧ plc (q / 2 ^ k) (l + k) (k - k) = (0, 0)) := hid ⟨by rw [Nat.div_eq_of_lt hq], by rw [Nat.sub_self]; rfl⟩
  have HE : Hid (nd (q / 2 ^ 0) (l + 0) = nd q l ∧ plc (q / 2 ^ 0) (l + 0) (k - 0) = plc q l k) := hid ⟨by rw [Nat.pow_zero, Nat.div_one, Nat.add_zero], by rw [Nat.pow_zero, Nat.div_one, Nat.add_zero, Nat.sub_zero]⟩
  have HCC : Hid (∀ d, d + 1 ≤ k → ∀ W, Calls Try.prog 27 #[.agg (spN (nd (q / 2 ^ (d + 1)) (l + (d + 1)) : Int) (plc (q / 2 ^ (d + 1)) (l + (d + 1)) (k - (d + 1))).1 (plc (q / 2 ^ (d + 1)) (l + (d + 1)) (k - (d + 1))).2), .bool (decide (q / 2 ^ d % 2 = 0))] W fun e w' => e = .returned (.agg (spN (nd (q / 2 ^ d) (l + d) : Int) (plc (q / 2 ^ d) (l + d) (k - d)).1 (plc (q / 2 ^ d) (l + d) (k - d)).2)) ∧ Below W.heap.size W w') := hid fun d hd W => by
    have h := child_go (q / 2 ^ d) (l + d) (k - (d + 1)) _ (side_down (l := l) hq hd) (by omega) rfl W
    rw [← div_step15, show k - (d + 1) + 1 = k - d by omega] at h
    exact h
  have HLF : Hid (∀ d, d + 1 ≤ k → ∀ W, Calls Try.prog 29 #[.agg (spN (nd (q / 2 ^ (d + 1)) (l + (d + 1)) : Int) (plc (q / 2 ^ (d + 1)) (l + (d + 1)) (k - (d + 1))).1 (plc (q / 2 ^ (d + 1)) (l + (d + 1)) (k - (d + 1))).2), .complex .f64 a b] W fun e w' => e = .returned (.bool (decide (q / 2 ^ d % 2 = 0))) ∧ Below W.heap.size W w') := hid fun d hd W => by
    have hQ := div_lt hq (r := d + 1) (by omega)
    have hp := plc_lt (q := q / 2 ^ (d + 1)) (l := l + (d + 1)) (k := k - (d + 1)) (by omega)
    have hz0 := plc_lt (q := q) (l := l) (k := k) hk
    have hs := str_300 (levelZ (nd (q / 2 ^ (d + 1)) (l + (d + 1)) : Int))
    have h := hasLeft_e hz (lt20_sub hz0.1 hp.1) (lt20_sub hz0.2 hp.2) (lt300_20 hz0.1) (lt300_20 hz0.2) hp.1 hp.2 (nd_i64 (l := l + (d + 1)) hQ (by omega)) W hs.1 hs.2
    have hd2 := dot_side d l (k - (d + 1)) q (by omega)
    rw [show d + (k - (d + 1) + 1) = k by omega, ← div_step15] at hd2
    unfold dotZ at hd2
    rw [Nat.add_assoc l d 1] at hd2
    rw [levelZ_le (l := l + (d + 1)) hQ (by omega)] at h
    rw [decide_eq_decide.2 hd2] at h
    exact h
  have HQ : Hid (∀ d, d + 1 ≤ k → ∀ w, (binOp .eql 25 (cN (plc (q / 2 ^ (d + 1)) (l + (d + 1)) (k - (d + 1))).1 (plc (q / 2 ^ (d + 1)) (l + (d + 1)) (k - (d + 1))).2) (.complex .f64 a b)).run Try.prog w = .ok (.bool false) w) := hid fun d hd w => by
    have hp := plc_lt (q := q / 2 ^ (d + 1)) (l := l + (d + 1)) (k := k - (d + 1)) (by omega)
    refine cz_eql hz hp.1 hp.2 ?_ w
    rw [Eq.comm, Bool.and_eq_false_iff]
    by_cases h1 : (plc (q / 2 ^ (d + 1)) (l + (d + 1)) (k - (d + 1))).1 = (plc q l k).1
    · refine .inr (decide_eq_false fun h2 => ?_)
      have := plc_inj (Prod.ext h1 h2) (by omega) (div_lt hq (r := d + 1) (by omega)) hq
      omega
    · exact .inl (decide_eq_false h1)
  have HQ0 : Hid (∀ w, (binOp .eql 25 (cN (plc q l k).1 (plc q l k).2) (.complex .f64 a b)).run Try.prog w = .ok (.bool true) w) := hid fun w => by
    have hp := plc_lt (q := q) (l := l) (k := k) hk
    exact cz_eql hz hp.1 hp.2 (by rw [decide_eq_true rfl, decide_eq_true rfl]; rfl) w
  have HKK := hid hk
  obtain ⟨n, hn⟩ : ∃ n : Int, n = ((2 ^ (l + k) : Nat) : Int) := ⟨_, rfl⟩
  rw [← hn] at HR ⊢
  clear hn hpow hpos hnI hk hz hq
  go_enter Try.func14, Try.ntmps14
  go_wp2_with fail
  refine (HR.out _).mono ?_
  rintro e w1 ⟨rfl, hb⟩
  have HB1 := hid ((hb.alloc hb.size (.cells spZ SPT)).trans (below_put (w1.alloc (.cells spZ SPT)) w1.heap.size (spN (nd 0 (l + k) : Int) 0 0) hb.size))
  have HS1 := hid (setRow_heap (w1.alloc (.cells spZ SPT)) w1.heap.size spZ (spN (nd 0 (l + k) : Int) 0 0) SPT (0, 0) (heap_alloc_new w1 _))
  have HG := hid hb.size
  clear hb HR
  go_wp2_with (with_reducible refine wpList_store_row rfl SPT (.tmp 6) (.tmp 8) rfl w1.heap.size (spN (nd 0 (l + k) : Int) 0 0) rfl rfl SPT spZ (heap_alloc_new w1 _) infoSN rfl spN_one ?_)
  generalize (w1.alloc (Obj.cells #[Value.int IntKind.i64 0, Value.complex FloatKind.f64 0 0] SPT)).setRow w1.heap.size (spN (nd 0 (l + k) : Int) 0 0) = w2 at HB1 HS1 ⊢
  simp only [Act.put]
  go_loopg [6] k (fun r v wr => r ≤ k ∧ AtS W wr v (nd (q / 2 ^ r) (l + r) : Int) (plc (q / 2 ^ r) (l + r) (k - r)).1 (plc (q / 2 ^ r) (l + r) (k - r)).2)
  case atStart => exact ⟨Nat.le_refl _, w1.heap.size, rfl, HG.out, by rw [HP.out.1, HP.out.2]; exact HS1.out, HB1.out⟩
  case round =>
    clear HB1 HS1 HG
    obtain ⟨hr, p, rfl, hp, hc, hb⟩ := hrel
    cases gk with
    | zero =>
      rw [HE.out.1, HE.out.2] at hc
      have HB := hid hb
      have HI := hid (fun W => isNode_e (nd q l : Int) (plc q l k).1 (plc q l k).2 W)
      rw [decide_eq_true (show (0 : Int) ≤ (nd q l : Int) by omega)] at HI
      have heq := HQ0.out
      obtain ⟨X, hX⟩ : ∃ X, X = (plc q l k).1 := ⟨_, rfl⟩
      obtain ⟨Y, hY⟩ : ∃ X, X = (plc q l k).2 := ⟨_, rfl⟩
      rw [← hX, ← hY] at hc heq HI
      have HC := hid hc
      clear hX hY hc hr HCC HQ HQ0 HLF HE HP hb hp HKK
      go_wp2_with (with_reducible refine wpList_load_row rfl SPT (.tmp 6) rfl p rfl SPT (spN (nd q l) X Y) (0, 0) _ HC.out Try.underlying51 rfl infoSN ?_)
      refine (HI.out _).mono ?_
      rintro e w4 ⟨rfl, hb⟩
      have HB4 := hid (HB.out.trans (hb.mono HB.out.size))
      have HC4 := (hb.block _ (block_lt HC.out)).trans HC.out
      have hc0 := cell_of HC4 0 _ rfl
      have hc1 := cell_of HC4 1 _ rfl
      clear hb HB HC HC4
      go_wp2
      exact bodyPost_ret (v := .tuple #[.int .i64 (nd q l : Int), .bool true]) (by simp [results, Try.results14]) rfl ⟨rfl, HB4.out⟩
    | succ d =>
      have hch := HCC.out d hr
      have hlf := HLF.out d hr
      have heq := HQ.out d hr
      have HI := hid (fun W => isNode_e (nd (q / 2 ^ (d + 1)) (l + (d + 1)) : Int) (plc (q / 2 ^ (d + 1)) (l + (d + 1)) (k - (d + 1))).1 (plc (q / 2 ^ (d + 1)) (l + (d + 1)) (k - (d + 1))).2 W)
      rw [decide_eq_true (show (0 : Int) ≤ (nd (q / 2 ^ (d + 1)) (l + (d + 1)) : Int) by omega)] at HI
      obtain ⟨N, hN⟩ : ∃ N : Int, N = (nd (q / 2 ^ (d + 1)) (l + (d + 1)) : Int) := ⟨_, rfl⟩
      obtain ⟨X, hX⟩ : ∃ X, X = (plc (q / 2 ^ (d + 1)) (l + (d + 1)) (k - (d + 1))).1 := ⟨_, rfl⟩
      obtain ⟨Y, hY⟩ : ∃ X, X = (plc (q / 2 ^ (d + 1)) (l + (d + 1)) (k - (d + 1))).2 := ⟨_, rfl⟩
      rw [← hN, ← hX, ← hY] at HI hch hlf hc
      rw [← hX, ← hY] at heq
      obtain ⟨x2, hx2⟩ : ∃ x : Int, x = (nd (q / 2 ^ d) (l + d) : Int) := ⟨_, rfl⟩
      obtain ⟨X2, hX2⟩ : ∃ X, X = (plc (q / 2 ^ d) (l + d) (k - d)).1 := ⟨_, rfl⟩
      obtain ⟨Y2, hY2⟩ : ∃ X, X = (plc (q / 2 ^ d) (l + d) (k - d)).2 := ⟨_, rfl⟩
      rw [← hx2, ← hX2, ← hY2] at hch
      obtain ⟨bl, hbl⟩ : ∃ bl, bl = decide (q / 2 ^ d % 2 = 0) := ⟨_, rfl⟩
      rw [← hbl] at hch hlf
      have HCH := hid hch; have HLT := hid hlf; have HC := hid hc; have HB := hid hb; have HR := hid hr
      have H2 := hid (⟨hx2, hX2, hY2⟩ : x2 = (nd (q / 2 ^ d) (l + d) : Int) ∧ X2 = (plc (q / 2 ^ d) (l + d) (k - d)).1 ∧ Y2 = (plc (q / 2 ^ d) (l + d) (k - d)).2)
      clear hN hX hY hx2 hX2 hY2 hbl hch hlf hc hb hr HCC HQ HQ0 HLF HE HP
      go_wp2_with (with_reducible refine wpList_load_row rfl SPT (.tmp 6) rfl p rfl SPT (spN N X Y) (0, 0) _ HC.out Try.underlying51 rfl infoSN ?_)
      refine (HI.out _).mono ?_
      rintro e w4 ⟨rfl, hb⟩
      have HB4 := hid (HB.out.trans (hb.mono HB.out.size))
      have HC4 := hid ((hb.block _ (block_lt HC.out)).trans HC.out)
      clear hb HB HC
      have hc1 := cell_of HC4.out 1 _ rfl
      have HB5 := hid ((HB4.out.alloc HB4.out.size (.cells spZ SPT)).trans (below_put (w4.alloc (.cells spZ SPT)) w4.heap.size (spN N X Y) HB4.out.size))
      have HS5 := hid (setRow_heap (w4.alloc (.cells spZ SPT)) w4.heap.size spZ (spN N X Y) SPT (0, 0) (heap_alloc_new w4 _))
      have HG5 := hid HB4.out.size
      clear HB4
      go_upto_region 3 with (first | (with_reducible refine wpList_load_row rfl SPT (.tmp 6) rfl p rfl SPT (spN N X Y) (0, 0) _ HC4.out Try.underlying51 rfl infoSN ?_) | (with_reducible refine wpList_store_row rfl SPT (.tmp 6) (.tmp 22) rfl w4.heap.size (spN N X Y) rfl rfl SPT spZ (heap_alloc_new w4 _) infoSN rfl spN_one ?_))
      generalize (w4.alloc (Obj.cells #[Value.int IntKind.i64 0, Value.complex FloatKind.f64 0 0] SPT)).setRow w4.heap.size (spN N X Y) = w5 at HB5 HS5 ⊢
      clear hc1 heq HC4 HI
      simp only [Act.put]
      refine wp_region_grA 5 (by kernel_rfl) (by decide) ?_
      refine wpGrA_take (i := 0) (.agg (spN N X Y)) rfl (by kernel_rfl) (by kernel_rfl) (fun _ _ _ h => h) (yieldsG_part rfl SPT (.tmp 6) rfl w4.heap.size 0 rfl SPT (spN N X Y) (spN N X Y) (0, 0) _ HS5.out rfl Try.underlying51 rfl infoSN) ?_
      (try simp only [Act.put, List.getElem_toArray, List.getElem_cons_succ, List.getElem_cons_zero, List.setIfInBounds_toArray, List.set_cons_zero, List.set_cons_succ])
      refine wpGrA_take (i := 1) (.agg (spN N X Y)) rfl (by kernel_rfl) (by kernel_rfl) (fun _ _ _ h => h) (yieldsG_part rfl SPT (.tmp 6) rfl w4.heap.size 0 rfl SPT (spN N X Y) (spN N X Y) (0, 0) _ HS5.out rfl Try.underlying51 rfl infoSN) ?_
      (try simp only [Act.put, List.getElem_toArray, List.getElem_cons_succ, List.getElem_cons_zero, List.setIfInBounds_toArray, List.set_cons_zero, List.set_cons_succ])
      refine wpGrA_take (i := 2) (.complex .f64 a b) rfl (by kernel_rfl) (by kernel_rfl) (fun _ _ _ h => h) (yieldsG_val _ rfl (fun w' hb => by go_simp)) ?_
      (try simp only [Act.put, List.getElem_toArray, List.getElem_cons_succ, List.getElem_cons_zero, List.setIfInBounds_toArray, List.set_cons_zero, List.set_cons_succ])
      refine wpGrA_take (i := 3) (.bool bl) rfl (by kernel_rfl) (by kernel_rfl) (fun _ _ _ h => h) (yieldsG_call rfl (fun w' => by go_simp) (fun w' hb => HLT.out w')) ?_
      (try simp only [Act.put, List.getElem_toArray, List.getElem_cons_succ, List.getElem_cons_zero, List.setIfInBounds_toArray, List.set_cons_zero, List.set_cons_succ])
      refine wpGrA_take (i := 4) (.agg (spN x2 X2 Y2)) rfl (by kernel_rfl) (by kernel_rfl) (fun _ _ _ h => h) (yieldsG_call rfl (fun w' => by go_simp) (fun w' hb => HCH.out w')) ?_
      (try simp only [Act.put, List.getElem_toArray, List.getElem_cons_succ, List.getElem_cons_zero, List.setIfInBounds_toArray, List.set_cons_zero, List.set_cons_succ])
      refine wpGrA_end (by kernel_rfl) ?_
      intro w8 hb58
      simp only [List.drop_succ_cons, List.drop_zero]
      have H8 := (hb58.block _ (block_lt HS5.out)).trans HS5.out
      have HB8 := hid ((HB5.out.trans (hb58.mono HB5.out.size)).trans (below_put w8 w4.heap.size (spN x2 X2 Y2) HG5.out))
      have HS8 := hid (setRow_heap w8 w4.heap.size (spN N X Y) (spN x2 X2 Y2) SPT (0, 0) H8)
      clear hb58 HB5 HS5
      go_wp2_with (with_reducible refine wpList_store_row rfl SPT (.tmp 6) (.tmp 15) rfl w4.heap.size (spN x2 X2 Y2) rfl rfl SPT (spN N X Y) H8 infoSN rfl spN_one ?_)
      simp only [Act.put]
      go_roundg (d)
      case measure => omega
      case rel => exact ⟨by have := HR.out; omega, w4.heap.size, rfl, HG5.out, by rw [← H2.out.1, ← H2.out.2.1, ← H2.out.2.2]; exact HS8.out, HB8.out⟩
theorem order_swap {v w : Nat} {z : Int} (hw : Fz w z) (h : Ieee.double.order w v = some .eq) : Ieee.double.order v w = some .eq := by
  obtain ⟨t, p, hr, hs⟩ := fz_read hw
  unfold Ieee.Format.order at h ⊢
  rw [hr] at h ⊢
  cases hv2 : Ieee.double.read v with
  | nan _ _ => rw [hv2] at h; cases h
  | infinity s => rw [hv2] at h; cases s <;> cases h
  | number s m i =>
    rw [hv2] at h
    unfold Ieee.Datum.order at h ⊢
    dsimp only at h ⊢
    injection h with h
    rw [Int.min_comm]
    exact congrArg some (Int.compare_eq_eq.2 (Int.compare_eq_eq.1 h).symm)
theorem at_none {X Y : Int} {H : Nat} (hH : H ≤ 16) (h : ∀ Q L k, Q < 2 ^ k → L + k = H → plc Q L k ≠ (X, Y)) : atZ (X, Y) ((2 ^ H : Nat) : Int) = 0 ∧ atB (X, Y) ((2 ^ H : Nat) : Int) = false := by
  have hn : atF (X, Y) ((2 ^ H : Nat) : Int) = none := atF_none fun j hj => by
    have hi : inB (j : Int) ((2 ^ H : Nat) : Int) = true := by
      unfold inB
      rw [fitB_pow hH, decide_eq_true (show (0 : Int) ≤ (j : Int) by omega), decide_eq_true (show (j : Int) ≤ 2 * ((2 ^ H : Nat) : Int) - 2 by omega)]; rfl
    obtain ⟨q, l, k, hq, hk, hj2, hn⟩ := inB_iff.1 hi
    have hp : H = l + k := pow2_inj (by omega)
    rw [hj2, hp, placeZ_nd hq hk]
    exact h q l k hq hp.symm
  unfold atZ atB
  rw [hn, if_pos (fitB_pow hH), fitB_pow hH]
  exact ⟨rfl, rfl⟩
theorem at_unfit {p : Int × Int} {n : Int} (h : ¬ fitB n = true) : atZ p n = 0 ∧ atB p n = false := by
  unfold atZ atB
  rw [if_neg h, Bool.eq_false_iff.2 h]
  exact ⟨rfl, rfl⟩
theorem at_ok : PlAt := fun a b X Y n W hz hX hY hn => by
  by_cases hf : fitB n = true
  · obtain ⟨H, hH, rfl⟩ := (fitB_iff n).1 hf
    by_cases he : ∃ Q L k, Q < 2 ^ k ∧ L + k = H ∧ plc Q L k = (X, Y)
    · obtain ⟨q, l, k, hq, rfl, hp⟩ := he
      have ha := atZ_node hq hH
      rw [hp] at ha
      rw [ha.1, ha.2]
      exact At_in a b q l k W hq hH (by rw [hp]; exact hz)
    · have hno : ∀ Q L k, Q < 2 ^ k → L + k = H → plc Q L k ≠ (X, Y) := fun Q L k h1 h2 h3 => he ⟨Q, L, k, h1, h2, h3⟩
      rw [(at_none hH hno).1, (at_none hH hno).2]
      refine At_out a b H W hH fun Q L k h1 h2 => ?_
      have hp := plc_lt (q := Q) (l := L) (k := k) (by omega)
      have hne := hno Q L k h1 h2
      rw [show (FloatKind.f64.format.order (fzN (plc Q L k).1) a == some .eq && FloatKind.f64.format.order (fzN (plc Q L k).2) b == some .eq) = _ from cz_eq ⟨fzN_fz hp.1, fzN_fz hp.2⟩ hz]
      rw [Bool.and_eq_false_iff]
      by_cases h3 : (plc Q L k).1 = X
      · exact .inr (decide_eq_false fun h4 => hne (Prod.ext h3 h4))
      · exact .inl (decide_eq_false h3)
  · rw [(at_unfit hf).1, (at_unfit hf).2]
    exact At_no a b n W hn hf
theorem off_ok : PlOff := fun a b X n W hz hX hb hno hle hn => by
  by_cases hf : fitB n = true
  · obtain ⟨H, hH, rfl⟩ := (fitB_iff n).1 hf
    refine At_out a b H W hH fun Q L k h1 h2 => ?_
    have hp := plc_lt (q := Q) (l := L) (k := k) (by omega)
    rw [Bool.and_eq_false_iff]
    refine .inr ?_
    rw [beq_eq_false_iff_ne]
    intro he
    have h3 := fz_of_order hb (fzN_fz hp.2) (order_swap (fzN_fz hp.2) he)
    refine hno _ ⟨h3, ?_⟩
    have := plc_300 Q L k (by omega)
    omega
  · exact At_no a b n W hn hf
end Go.Proofs.Ytmipocpajglbaaa
end
section
namespace Go.Proofs.Ytmipocpajglbaaa
open Go Go.RowKit
set_option linter.unusedVariables false
set_option linter.unusedSimpArgs false
theorem stride_ok : PlStride := fun l W _ => (Stride_e l W).mono fun e w' ⟨h1, h2⟩ => by
  subst h2
  exact ⟨_, _, h1, ⟨fzN_fz (str_300 l).1, fzN_fz (str_300 l).2⟩, Below.refl _ _⟩
theorem cut_fz {r : Nat} {g : Int} (h : Fz r g) (h1 : 0 ≤ g) (h2 : g ≤ 1000000000) : floatToIntVal .f64 r .i64 = some g := by
  unfold floatToIntVal
  show (match (Ieee.double.read r).toInt .zero with | some n => if IntKind.i64.min ≤ n ∧ n ≤ IntKind.i64.max then some n else none | none => none) = some g
  rw [fz_int h]
  show (if _ then _ else _) = _
  rw [if_pos]
  constructor
  · show (-9223372036854775808 : Int) ≤ g; omega
  · show g ≤ (9223372036854775807 : Int); omega
theorem gap_ok : PlGap := fun x y n W hx hy hn => by
  have HA := hid (fun W => place_ok x n W hx hn)
  have HB := hid (fun W => place_ok y n W hy hn)
  have hb1 := placeZ_le x n
  have hb2 := placeZ_le y n
  have hgl := gap_le x y n
  obtain ⟨g, hg⟩ : ∃ g, g = gpZ x y n := ⟨_, rfl⟩
  have hgz : (inB x n && inB y n) = true → ((placeZ x n).1 - (placeZ y n).1) * ((placeZ x n).1 - (placeZ y n).1) + ((placeZ x n).2 - (placeZ y n).2) * ((placeZ x n).2 - (placeZ y n).2) = g := fun h => by rw [hg]; unfold gpZ; rw [if_pos h]; rfl
  have hg0 : ¬ (inB x n && inB y n) = true → g = 0 := fun h => by rw [hg]; unfold gpZ; rw [if_neg h]
  rw [← hg] at hgl ⊢
  obtain ⟨a, ha⟩ : ∃ a, a = (placeZ x n).1 := ⟨_, rfl⟩
  obtain ⟨b, hb⟩ : ∃ a, a = (placeZ x n).2 := ⟨_, rfl⟩
  obtain ⟨c, hc⟩ : ∃ a, a = (placeZ y n).1 := ⟨_, rfl⟩
  obtain ⟨d, hd⟩ : ∃ a, a = (placeZ y n).2 := ⟨_, rfl⟩
  obtain ⟨p, hp⟩ : ∃ a, a = inB x n := ⟨_, rfl⟩
  obtain ⟨r, hr⟩ : ∃ a, a = inB y n := ⟨_, rfl⟩
  rw [← ha, ← hb, ← hp] at HA
  rw [← hc, ← hd, ← hr] at HB
  rw [← ha, ← hb] at hb1
  rw [← hc, ← hd] at hb2
  rw [← ha, ← hb, ← hc, ← hd, ← hp, ← hr] at hgz
  rw [← hp, ← hr] at hg0 ⊢
  clear ha hb hc hd hp hr hg
  have HGZ := hid hgz; have HG0 := hid hg0; have HGL := hid hgl; have HB1 := hid hb1; have HB2 := hid hb2
  clear hgz hg0 hgl hb1 hb2
  go_enter Try.func16, Try.ntmps16
  go_wp2_with fail
  refine (HA.out _).mono ?_
  rintro e w1 ⟨za, zb, rfl, hz, hb⟩
  have HW1 := hid hb; have HZ1 := hid hz
  clear hb hz
  go_wp2_with fail
  refine (HB.out _).mono ?_
  rintro e w2 ⟨zc, zd, rfl, hz, hb⟩
  have HW2 := hid (HW1.out.trans (hb.mono HW1.out.size)); have HZ2 := hid hz
  clear hb hz
  obtain ⟨re, im, hsub, hz⟩ := run_cz_sub (t := 25) (P := Try.prog) HZ1.out HZ2.out (by have := HB1.out; unfold Lt20; omega) (by have := HB1.out; unfold Lt20; omega) (by have := HB2.out; unfold Lt20; omega) (by have := HB2.out; unfold Lt20; omega)
  have l1 : Lt20 (a - c) := by have := HB1.out; have := HB2.out; unfold Lt20; omega
  have l2 : Lt20 (b - d) := by have := HB1.out; have := HB2.out; unfold Lt20; omega
  obtain ⟨v, hv, hdot⟩ := dot_e hz hz l1 l2 l1 l2
  have HD := hid hdot
  have HV := hid hv
  clear hz l1 l2 hdot hv
  cases p with
  | false =>
    go_wp2
    exact bodyPost_ret (v := .tuple #[.int .i64 0, .bool false]) (by simp [results, Try.results16]) rfl ⟨by rw [HG0.out (by simp)]; simp, HW2.out⟩
  | true =>
    cases r with
    | false =>
      go_wp2
      exact bodyPost_ret (v := .tuple #[.int .i64 0, .bool false]) (by simp [results, Try.results16]) rfl ⟨by rw [HG0.out (by simp)]; simp, HW2.out⟩
    | true =>
      have hcut := cut_fz (by rw [← HGZ.out rfl]; exact HV.out) HGL.out.1 (by have := HGL.out; omega)
      have hcv : ∀ W : World, (convert 27 3 (.float .f64 v)).run Try.prog W = .ok (.int .i64 g) W := fun W => run_convert_float_int W _ _ .f64 .i64 v g (by kernel_rfl) (by kernel_rfl) hcut
      go_wp2_with fail
      refine (HD.out _).mono ?_
      rintro e w3 ⟨rfl, rfl⟩
      go_wp2
      exact bodyPost_ret (v := .tuple #[.int .i64 g, .bool true]) (by simp [results, Try.results16]) rfl ⟨rfl, HW2.out⟩
theorem and3 (q : Int) (hq : I64 q) : bits .and .i64 q 3 = q % 4 := by
  show IntKind.i64.wrap ((BitVec.ofInt 64 q &&& BitVec.ofInt 64 3).toNat : Int) = _
  rw [BitVec.toNat_and, show (BitVec.ofInt 64 3).toNat = 2 ^ 2 - 1 by decide, Nat.and_two_pow_sub_one_eq_mod, BitVec.toNat_ofInt]
  have h : ((q % ((2 ^ 64 : Nat) : Int)).toNat % 2 ^ 2 : Nat) = (q % 4).toNat := by omega
  rw [h]
  have : 0 ≤ q % 4 ∧ q % 4 < 4 := by omega
  rw [Int.toNat_of_nonneg this.1]
  exact IntWalk.i64_in _ (by omega)
theorem fz_i : Fz 4607182418800017408 1 := ⟨false, by decide +kernel, fun _ => by decide, by decide⟩
theorem cz_i : Cz 0 4607182418800017408 0 1 := ⟨fz_nought, fz_i⟩
set_option maxHeartbeats 1000000 in
theorem turn_ok : PlTurn := fun x n q W hx hn hq => by
  have HP := hid (fun W => place_ok x n W hx hn)
  have hle := placeZ_le x n
  have hrl := fun j => rotN_le j (p := placeZ x n) (B := 2048) hle
  have HAT := hid (fun a b W (h : Cz a b (rotN (q % 4).toNat (placeZ x n)).1 (rotN (q % 4).toNat (placeZ x n)).2) => at_ok a b _ _ n W h (by have := hrl (q % 4).toNat; unfold Lt20; omega) (by have := hrl (q % 4).toNat; unfold Lt20; omega) hn)
  have hand := and3 q hq
  obtain ⟨k, hk⟩ : ∃ k, k = (q % 4).toNat := ⟨_, rfl⟩
  rw [show q % 4 = (k : Int) by omega] at hand
  have hk4 : k ≤ 3 := by omega
  have htz : inB x n = true → trnZ x n q = atZ ((rotN k (placeZ x n)).1, (rotN k (placeZ x n)).2) n ∧ trnB x n q = atB ((rotN k (placeZ x n)).1, (rotN k (placeZ x n)).2) n := fun h => by unfold trnZ trnB; rw [if_pos h, h, ← hk]; exact ⟨rfl, rfl⟩
  have ht0 : ¬ inB x n = true → trnZ x n q = 0 ∧ trnB x n q = false := fun h => by unfold trnZ trnB; rw [if_neg h, Bool.eq_false_iff.2 h]; exact ⟨rfl, rfl⟩
  rw [← hk] at HAT
  have HRL := hid hrl; have HK4 := hid hk4
  cases hi : inB x n with
  | false =>
    rw [hi] at HP ht0
    rw [(ht0 (by decide)).1, (ht0 (by decide)).2]
    clear ht0 htz hrl hle HAT hk hi
    go_enter Try.func20, Try.ntmps20
    go_wp2_with fail
    refine (HP.out _).mono ?_
    rintro e w1 ⟨za, zb, rfl, hz, hb⟩
    have HW1 := hid hb
    clear hb hz
    go_wp2
    exact bodyPost_ret (v := .tuple #[.int .i64 0, .bool false]) (by simp [results, Try.results20]) rfl ⟨rfl, HW1.out⟩
  | true =>
    rw [hi] at HP
    rw [(htz hi).1, (htz hi).2]
    obtain ⟨Z, hZ⟩ : ∃ Z, Z = placeZ x n := ⟨_, rfl⟩
    rw [← hZ] at HP HAT HRL ⊢
    clear ht0 htz hrl hle hk hi hZ hq hk4
    go_enter Try.func20, Try.ntmps20
    go_wp2_with fail
    refine (HP.out _).mono ?_
    rintro e w1 ⟨za, zb, rfl, hz, hb⟩
    have HW1 := hid hb; have HZ1 := hid hz
    clear hb hz
    go_wp2
    go_loopg [8, 20] k (fun r v i wr => ∃ j : Nat, j + r = k ∧ i = .int .i64 (j : Int) ∧ wr = w1 ∧ ∃ a b, v = .complex .f64 a b ∧ Cz a b (rotN j Z).1 (rotN j Z).2)
    case atStart => exact ⟨0, by omega, rfl, rfl, za, zb, rfl, HZ1.out⟩
    case round =>
      obtain ⟨j, hj, rfl, rfl, a, b, rfl, hz⟩ := hrel
      have HJ := hid hj
      by_cases hlt : j < k
      · have hji : (j : Int) < (k : Int) := by omega
        have hwj : wrap64 ((j : Int) + 1) = (j : Int) + 1 := wrap64_in (by omega) (by have := HK4.out; omega)
        have hr := HRL.out j
        obtain ⟨re, im, hmul, hz2⟩ := run_cz_mul (t := 25) (P := Try.prog) hz cz_i (by unfold Lt20; omega) (by unfold Lt20; omega) (by unfold Lt20; decide) (by unfold Lt20; decide)
        have HZ2 := hid hz2
        clear hz2 hz hr hj
        go_wp2
        go_roundg (k - (j + 1))
        case measure => have := HJ.out; clear hwj; omega
        case rel => exact ⟨j + 1, by have := HJ.out; clear hwj; omega, by first | rfl | (rw [hwj]; rfl), rfl, re, im, rfl, by
          have h := HZ2.out
          show Cz re im (-(rotN j Z).2) (rotN j Z).1
          rw [show (rotN j Z).1 * 0 - (rotN j Z).2 * 1 = -(rotN j Z).2 by omega, show (rotN j Z).1 * 1 + (rotN j Z).2 * 0 = (rotN j Z).1 by omega] at h
          exact h⟩
      · have hge : ¬ (j : Int) < (k : Int) := by omega
        have hjk : j = k := by omega
        subst hjk
        have HA := hid (fun W => HAT.out a b W hz)
        clear hz HAT hlt hj
        go_wp2_with fail
        refine (HA.out _).mono ?_
        rintro e w2 ⟨rfl, hb⟩
        have HB2 := hid (HW1.out.trans (hb.mono HW1.out.size))
        clear hb
        go_wp2
        exact bodyPost_ret (v := .tuple #[.int .i64 _, .bool _]) (by simp [results, Try.results20]) rfl ⟨rfl, HB2.out⟩
/-- What Far has found of the first j. -/
def FarI (x n : Int) (l : List Int) (j : Nat) (f m : Int) : Prop := (j = 0 ∧ f = 0 ∧ m = -1) ∨ ∃ i, i < j ∧ f = l.getD i 0 ∧ m = gpZ x (l.getD i 0) n ∧ (∀ k, k < j → (inB x n && inB (l.getD k 0) n) = true ∧ gpZ x (l.getD k 0) n ≤ m) ∧ (∀ k, k < i → gpZ x (l.getD k 0) n < m)
theorem FarI.up {x n : Int} {l : List Int} {j : Nat} {f m : Int} (h : FarI x n l j f m) (hj : (inB x n && inB (l.getD j 0) n) = true) (hg : m < gpZ x (l.getD j 0) n) : FarI x n l (j + 1) (l.getD j 0) (gpZ x (l.getD j 0) n) := by
  rcases h with ⟨rfl, -, -⟩ | ⟨i, h1, h2, h3, h4, h5⟩
  · exact .inr ⟨0, by omega, rfl, rfl, fun k hk => by rw [show k = 0 by omega]; exact ⟨hj, Int.le_refl _⟩, fun k hk => by omega⟩
  · refine .inr ⟨j, by omega, rfl, rfl, fun k hk => ?_, fun k hk => ?_⟩
    · by_cases hkj : k = j
      · rw [hkj]; exact ⟨hj, Int.le_refl _⟩
      · have := h4 k (by omega); exact ⟨this.1, by omega⟩
    · have := (h4 k hk).2; omega
theorem FarI.stay {x n : Int} {l : List Int} {j : Nat} {f m : Int} (h : FarI x n l j f m) (hj : (inB x n && inB (l.getD j 0) n) = true) (hg : ¬ m < gpZ x (l.getD j 0) n) : FarI x n l (j + 1) f m := by
  rcases h with ⟨rfl, -, rfl⟩ | ⟨i, h1, h2, h3, h4, h5⟩
  · have := (gap_le x (l.getD 0 0) n).1; omega
  · refine .inr ⟨i, by omega, h2, h3, fun k hk => ?_, h5⟩
    by_cases hkj : k = j
    · rw [hkj]; exact ⟨hj, by omega⟩
    · exact h4 k (by omega)
theorem far_bad {x n : Int} {l : List Int} {j : Nat} (hj : j < l.length) (h : (inB x n && inB l[j] n) = false) : farZ x l n = 0 ∧ (farI x l n).isSome = false := by
  have hf : farI x l n = none := by
    unfold farI
    rw [if_neg]
    intro hb
    unfold farB at hb
    rw [Bool.and_eq_true] at hb
    have := List.all_eq_true.1 hb.2 _ (List.getElem_mem hj)
    rw [hb.1, this] at h
    cases h
  unfold farZ
  rw [hf]; exact ⟨rfl, rfl⟩
theorem FarI.done {x n : Int} {l : List Int} {f m : Int} (h : FarI x n l l.length f m) : f = farZ x l n ∧ decide (0 ≤ m) = (farI x l n).isSome := by
  rcases h with ⟨h0, rfl, rfl⟩ | ⟨i, h1, h2, h3, h4, h5⟩
  · have hl : l = [] := List.eq_nil_of_length_eq_zero h0
    subst hl
    have hf : farI x [] n = none := by
      unfold farI
      split <;> rfl
    unfold farZ
    rw [hf]; exact ⟨rfl, rfl⟩
  · have hB : farB x l n = true := by
      unfold farB
      have h6 := (h4 i h1).1
      rw [Bool.and_eq_true] at h6 ⊢
      refine ⟨h6.1, List.all_eq_true.2 fun y hy => ?_⟩
      obtain ⟨k, hk, rfl⟩ := List.getElem_of_mem hy
      have h7 := (h4 k hk).1
      rw [Bool.and_eq_true, List.getD_eq_getElem?_getD, List.getElem?_eq_getElem hk] at h7
      exact h7.2
    have hg : ∀ k, k < l.length → (l.map fun y => gpZ x y n).getD k 0 = gpZ x (l.getD k 0) n := fun k hk => by
      rw [List.getD_eq_getElem?_getD, List.getElem?_map, List.getD_eq_getElem?_getD, List.getElem?_eq_getElem hk]; rfl
    have hF : farI x l n = some i := by
      unfold farI
      rw [if_pos hB]
      refine topF_some (by rw [List.length_map]; exact h1) (topB_yes fun k hk => ?_) fun k hk => topB_no (k := i) (by rw [List.length_map]; exact h1) (.inl ?_)
      · rw [List.length_map] at hk
        rw [hg i h1, hg k hk]
        rintro (h6 | ⟨h6, h7⟩)
        · have := (h4 k hk).2; omega
        · have := h5 k h6; omega
      · rw [hg i h1, hg k (by omega)]
        have := h5 k hk; omega
    unfold farZ
    rw [hF]
    refine ⟨h2, ?_⟩
    have := (gap_le x (l.getD i 0) n).1
    rw [decide_eq_true (by omega)]; rfl
set_option maxHeartbeats 1000000 in
theorem far_ok : PlFar := fun x A c l n W hx hn hl hA hlen => by
  have HG : Hid (∀ j (h : j < l.length) W, Calls Try.prog 16 #[.int .i64 x, .int .i64 l[j], .int .i64 n] W (RetIB W (gpZ x l[j] n) (inB x n && inB l[j] n))) := hid fun j h W => gap_ok x l[j] n W hx (hl _ (List.getElem_mem h)) hn
  have HL := hid hA.lie; have HM := hid hlen
  clear hA hlen hl hx hn
  go_enter Try.func18, Try.ntmps18
  go_wp2
  go_loopg [8, 9, 16] l.length (fun r f m i wr => ∃ j : Nat, j + r = l.length ∧ i = .int .i64 (j : Int) ∧ Below W.heap.size W wr ∧ ∃ F M : Int, f = .int .i64 F ∧ m = .int .i64 M ∧ FarI x n l j F M)
  case atStart => exact ⟨0, by omega, rfl, Below.refl _ _, 0, -1, rfl, rfl, .inl ⟨rfl, rfl, rfl⟩⟩
  case round =>
    obtain ⟨j, hj, rfl, hb, F, M, rfl, rfl, hF⟩ := hrel
    have HB := hid hb; have HJ := hid hj; have HF := hid hF
    clear hb hF
    by_cases hlt : j < l.length
    · have hji : (j : Int) < (l.length : Int) := by omega
      have hj0 : (0 : Int) ≤ (j : Int) := by omega
      have hwj : wrap64 ((j : Int) + 1) = (j : Int) + 1 := wrap64_in (by omega) (by have := HM.out; omega)
      obtain ⟨b, o, hAe, hbl, hc⟩ := (HL.out.below HB.out).numZ hlt
      have HGj := hid (HG.out j hlt)
      have hd : l.getD j 0 = l[j] := by rw [List.getD_eq_getElem?_getD, List.getElem?_eq_getElem hlt]; rfl
      have hbad := fun h => far_bad (x := x) (n := n) hlt h
      have hup := fun h h' => HF.out.up (by rw [hd]; exact h) (by rw [hd]; exact h')
      have hst := fun h h' => HF.out.stay (by rw [hd]; exact h) (by rw [hd]; exact h')
      rw [hd] at hup
      obtain ⟨y, hy⟩ : ∃ y, y = l[j] := ⟨_, rfl⟩
      rw [← hy] at hc HGj hbad hup hst
      obtain ⟨g, hg⟩ : ∃ g, g = gpZ x y n := ⟨_, rfl⟩
      obtain ⟨ok, hok⟩ : ∃ g, g = (inB x n && inB y n) := ⟨_, rfl⟩
      rw [← hg, ← hok] at HGj
      rw [← hok] at hbad
      rw [← hg, ← hok] at hup hst
      have HLT := hid hlt; have HBAD := hid hbad; have HUP := hid hup; have HST := hid hst
      clear hy hg hok hd hlt hj hbad hup hst
      subst hAe
      go_wp2_with fail
      refine (HGj.out _).mono ?_
      rintro e w3 ⟨rfl, hb⟩
      have HB3 := hid (HB.out.trans (hb.mono HB.out.size))
      clear hb HB HGj
      cases ok with
      | false =>
        have hbd := HBAD.out rfl
        have HBD := hid hbd
        clear hbd
        go_wp2
        exact bodyPost_ret (v := .tuple #[.int .i64 0, .bool false]) (by simp [results, Try.results18]) rfl ⟨by rw [HBD.out.1, HBD.out.2], HB3.out⟩
      | true =>
        by_cases hgt : M < g
        · go_wp2
          go_roundg (l.length - (j + 1))
          case measure => have := HJ.out; have := HLT.out; clear hwj; omega
          case rel => exact ⟨j + 1, by have := HJ.out; have := HLT.out; clear hwj; omega, by first | rfl | (rw [hwj]; rfl), HB3.out, _, _, rfl, rfl, HUP.out (by first | rfl | trivial) hgt⟩
        · go_wp2
          go_roundg (l.length - (j + 1))
          case measure => have := HJ.out; have := HLT.out; clear hwj; omega
          case rel => exact ⟨j + 1, by have := HJ.out; have := HLT.out; clear hwj; omega, by first | rfl | (rw [hwj]; rfl), HB3.out, _, _, rfl, rfl, HST.out (by first | rfl | trivial) hgt⟩
    · have hge : ¬ (j : Int) < (l.length : Int) := by omega
      have hjl : j = l.length := by omega
      have hF := HF.out
      rw [hjl] at hF
      have hd := hF.done
      have HD := hid hd
      clear hd hF hlt hj
      go_wp2
      exact bodyPost_ret (v := .tuple #[.int .i64 F, .bool (decide (0 ≤ M))]) (by simp [results, Try.results18]) rfl ⟨by rw [← HD.out.1, ← HD.out.2], HB.out⟩
end Go.Proofs.Ytmipocpajglbaaa
end
