/-
  The statements of layer 14: up and down.
-/
import Derived.Test.YtaoddlcoedodcaaLaw14e
namespace Go.Proofs.Ytaoddlcoedodcaa
open Go Go.RowKit
set_option linter.unusedVariables false
set_option linter.unusedSimpArgs false
theorem wrap_succ {m : Nat} (h : m ≤ 100) : wrap64 ((m : Int) + 1) = (m : Int) + 1 := wrap64_in (by omega) (by omega)
theorem und_up (Q L : Nat) : undB Q L (Q / 2) (L + 1) = true := by
  have h := up_step Q L
  have h1 := lo_le Q L
  have h2 := le_hi Q L
  unfold undB
  rw [Bool.and_eq_true, decide_eq_true_eq, decide_eq_true_eq]
  omega
theorem und_down (Q L : Nat) : undB (Q / 2) (L + 1) Q L = false := by
  have hpar : Q % 2 = 0 ∨ Q % 2 = 1 := by omega
  unfold undB
  rcases hpar with h | h
  · obtain ⟨-, -, h3⟩ := down_left (q := Q) (l := L) (r := 0) (by simpa using h)
    simp only [Nat.zero_add, Nat.pow_one, Nat.pow_zero, Nat.div_one, Nat.add_zero] at h3
    rw [Bool.and_eq_false_iff]
    right
    rw [decide_eq_false_iff_not]
    omega
  · obtain ⟨-, -, h3⟩ := down_right (q := Q) (l := L) (r := 0) (by simpa using h)
    simp only [Nat.zero_add, Nat.pow_one, Nat.pow_zero, Nat.div_one, Nat.add_zero] at h3
    rw [Bool.and_eq_false_iff]
    left
    rw [decide_eq_false_iff_not]
    omega
theorem div_step (q i : Nat) : q / 2 ^ (i + 1) = q / 2 ^ i / 2 := by rw [Nat.div_div_eq_div_mul, ← Nat.pow_succ]
theorem nd_top {q l k : Nat} (hq : q < 2 ^ k) : nd (q / 2 ^ k) (l + k) = 2 ^ (l + k) - 1 := by
  rw [Nat.div_eq_of_lt hq]; unfold nd; rw [Nat.zero_mul, Nat.zero_add]
theorem nd_par (q l : Nat) : (nd q l % 2 = 0 ↔ l = 0) := by
  cases l with
  | zero => rw [nd_zero]; omega
  | succ l => rw [nd_succ]; omega
/-- What package walk answers up a path. -/
structure UpOk (q l k : Nat) (x n : Int) : Prop where
  path : ∀ W, Calls Try.prog 25 #[.int .i64 x, .int .i64 n] W (RetN W k (pathL q l k))
  level : ∀ j W, j ≤ k → Calls Try.prog 14 #[.int .i64 (nd (q / 2 ^ j) (l + j) : Int)] W (RetI W ((l + j : Nat) : Int))
  up : ∀ j W, j < k → Calls Try.prog 31 #[.int .i64 (nd (q / 2 ^ j) (l + j) : Int), .int .i64 (nd (q / 2 ^ (j + 1)) (l + (j + 1)) : Int)] W (RetB W true)
  down : ∀ j W, j < k → Calls Try.prog 31 #[.int .i64 (nd (q / 2 ^ (j + 1)) (l + (j + 1)) : Int), .int .i64 (nd (q / 2 ^ j) (l + j) : Int)] W (RetB W false)
  root : ∀ W, Calls Try.prog 19 #[.int .i64 n] W (RetI W (n - 1))
theorem up_of {q l k : Nat} (hq : q < 2 ^ k) (hk : l + k ≤ 16) {x n : Int} (hx : x = (nd q l : Int)) (hn : n = ((2 ^ (l + k) : Nat) : Int)) (hL : WLevel) (hU : WUnder) (hT : WPath) (hR : WRoot) : UpOk q l k x n := by
  have hp := pow_le16 hk
  have hb : ∀ j, j ≤ k → nd (q / 2 ^ j) (l + j) ≤ 131072 := fun j hj => by
    have h1 := hi_bound (l := l + j) (div_lt hq hj)
    have h2 := le_hi (q / 2 ^ j) (l + j)
    rw [show l + j + (k - j) = l + k by omega] at h1
    omega
  have hi : ∀ j, j ≤ k → I64 (nd (q / 2 ^ j) (l + j) : Int) := fun j hj => i64_small (by omega) (by have := hb j hj; omega)
  have hm : ∀ j, j ≤ k → q / 2 ^ j < 2 ^ (16 - (l + j)) ∧ l + j + (16 - (l + j)) = 16 := fun j hj => by
    refine ⟨Nat.lt_of_lt_of_le (div_lt hq hj) (Nat.pow_le_pow_right (by decide) (by omega)), by omega⟩
  have hxi : I64 x := by have h := hi 0 (by omega); rw [hx]; simpa using h
  have hni : I64 n := by
    have h0 : (0 : Int) ≤ ((2 ^ (l + k) : Nat) : Int) := Int.natCast_nonneg _
    rw [hn]
    exact i64_small (by omega) (by omega)
  refine ⟨fun W => ?_, fun j W hj => ?_, fun j W hj => ?_, fun j W hj => ?_, fun W => ?_⟩
  · exact retN (by rw [hx, hn]; exact pathZ_nd hq hk) (hT x n W hxi hni) (pathL_length _ _ _)
  · have h := hL _ W (hi j hj)
    rw [levelZ_nd (hm j hj).1 (hm j hj).2] at h
    exact h
  · have h := hU _ _ W (hi j (by omega)) (hi (j + 1) hj)
    rw [underZ_nd (hm j (by omega)).1 (hm j (by omega)).2 (hm (j + 1) hj).1 (hm (j + 1) hj).2, div_step, show l + (j + 1) = l + j + 1 by omega, und_up] at h
    rw [div_step, show l + (j + 1) = l + j + 1 by omega]
    exact h
  · have h := hU _ _ W (hi (j + 1) hj) (hi j (by omega))
    rw [underZ_nd (hm (j + 1) hj).1 (hm (j + 1) hj).2 (hm j (by omega)).1 (hm j (by omega)).2, div_step, show l + (j + 1) = l + j + 1 by omega, und_down] at h
    rw [div_step, show l + (j + 1) = l + j + 1 by omega]
    exact h
  · have h := hR n W hni
    unfold rootZ at h
    rw [if_pos (by rw [hn]; exact fitB_pow hk)] at h
    exact h
theorem back_no (hA : AliveOk) (x n : Int) (w : World) (hF : ∀ W, Calls Try.prog 18 #[.int .i64 n] W (RetB W (fitB n))) (hP : ∀ W, Calls Try.prog 20 #[.int .i64 x, .int .i64 n] W (RetI W (-1))) (hT : ∀ W, Calls Try.prog 25 #[.int .i64 x, .int .i64 n] W (RetN W 0 [])) (hC : ∀ W, Calls Try.prog 27 #[.int .i64 x, .int .i64 n] W (RetN W 0 [])) (hf : fitB n = false) : Calls Try.prog 7 #[.int .i64 x, .int .i64 n] w (RetB w true) := by
  have HA := hid hA; have HP := hid hP; have HT := hid hT; have HC := hid hC
  have HF := hid hF
  rw [hf] at HF
  clear hf
  clear hA hF hP hT hC
  have HB0 : Hid (Below w.heap.size w w) := hid (Below.refl _ _)
  go_enter Try.func7, Try.ntmps7
  go_wp2_with fail
  refine (HA.out w).mono ?_
  rintro e w1 ⟨rfl, hb⟩
  have HB1 : Hid (Below w.heap.size w w1) := hid (HB0.out.trans (hb.mono HB0.out.size))
  clear hb HB0
  go_wp2_with fail
  refine (HF.out w1).mono ?_
  rintro e w2 ⟨rfl, hb⟩
  have HB2 : Hid (Below w.heap.size w w2) := hid (HB1.out.trans (hb.mono HB1.out.size))
  clear hb HB1
  go_wp2_with fail
  refine (HP.out w2).mono ?_
  rintro e w3 ⟨rfl, hb⟩
  have HB3 : Hid (Below w.heap.size w w3) := hid (HB2.out.trans (hb.mono HB2.out.size))
  clear hb HB2
  go_wp2_with fail
  refine (HT.out w3).mono ?_
  rintro e w4 ⟨AP, cAP, rfl, hq, hb⟩
  have HB4 : Hid (Below w.heap.size w w4) := hid (HB3.out.trans (hb.mono HB3.out.size))
  have QAP := hid hq
  clear hb hq HB3
  go_wp2_with fail
  refine (HC.out w4).mono ?_
  rintro e w5 ⟨AC, cAC, rfl, hq, hb⟩
  have HB5 : Hid (Below w.heap.size w w5) := hid (HB4.out.trans (hb.mono HB4.out.size))
  have QAP := hid (sq_onI QAP.out hb)
  have QAC := hid hq
  clear hb hq HB4
  go_wp2
  go_ret
  exact ⟨rfl, HB5.out⟩
theorem back_neg (hA : AliveOk) (x n : Int) (w : World) (hF : ∀ W, Calls Try.prog 18 #[.int .i64 n] W (RetB W (fitB n))) (hP : ∀ W, Calls Try.prog 20 #[.int .i64 x, .int .i64 n] W (RetI W (-1))) (hT : ∀ W, Calls Try.prog 25 #[.int .i64 x, .int .i64 n] W (RetN W 0 [])) (hC : ∀ W, Calls Try.prog 27 #[.int .i64 x, .int .i64 n] W (RetN W 0 [])) (hf : fitB n = true) (h0 : x < 0) : Calls Try.prog 7 #[.int .i64 x, .int .i64 n] w (RetB w true) := by
  have HA := hid hA; have HP := hid hP; have HT := hid hT; have HC := hid hC
  have HF := hid hF
  rw [hf] at HF
  clear hf
  clear hA hF hP hT hC
  have HB0 : Hid (Below w.heap.size w w) := hid (Below.refl _ _)
  go_enter Try.func7, Try.ntmps7
  go_wp2_with fail
  refine (HA.out w).mono ?_
  rintro e w1 ⟨rfl, hb⟩
  have HB1 : Hid (Below w.heap.size w w1) := hid (HB0.out.trans (hb.mono HB0.out.size))
  clear hb HB0
  go_wp2_with fail
  refine (HF.out w1).mono ?_
  rintro e w2 ⟨rfl, hb⟩
  have HB2 : Hid (Below w.heap.size w w2) := hid (HB1.out.trans (hb.mono HB1.out.size))
  clear hb HB1
  go_wp2_with fail
  refine (HP.out w2).mono ?_
  rintro e w3 ⟨rfl, hb⟩
  have HB3 : Hid (Below w.heap.size w w3) := hid (HB2.out.trans (hb.mono HB2.out.size))
  clear hb HB2
  go_wp2_with fail
  refine (HT.out w3).mono ?_
  rintro e w4 ⟨AP, cAP, rfl, hq, hb⟩
  have HB4 : Hid (Below w.heap.size w w4) := hid (HB3.out.trans (hb.mono HB3.out.size))
  have QAP := hid hq
  clear hb hq HB3
  go_wp2_with fail
  refine (HC.out w4).mono ?_
  rintro e w5 ⟨AC, cAC, rfl, hq, hb⟩
  have HB5 : Hid (Below w.heap.size w w5) := hid (HB4.out.trans (hb.mono HB4.out.size))
  have QAP := hid (sq_onI QAP.out hb)
  have QAC := hid hq
  clear hb hq HB4
  go_wp2
  go_ret
  exact ⟨rfl, HB5.out⟩
theorem back_off (hA : AliveOk) (x n : Int) (w : World) (hF : ∀ W, Calls Try.prog 18 #[.int .i64 n] W (RetB W (fitB n))) (hP : ∀ W, Calls Try.prog 20 #[.int .i64 x, .int .i64 n] W (RetI W (-1))) (hT : ∀ W, Calls Try.prog 25 #[.int .i64 x, .int .i64 n] W (RetN W 0 [])) (hC : ∀ W, Calls Try.prog 27 #[.int .i64 x, .int .i64 n] W (RetN W 0 [])) (hf : fitB n = true) (h0 : ¬ x < 0) (h1 : 2 * n - 2 < x) : Calls Try.prog 7 #[.int .i64 x, .int .i64 n] w (RetB w true) := by
  have HA := hid hA; have HP := hid hP; have HT := hid hT; have HC := hid hC
  have HF := hid hF
  rw [hf] at HF
  have hs := fit_small hf
  have hw1 : wrap64 (2 * n) = 2 * n := wrap64_in (by omega) (by omega)
  have hw2 : wrap64 (2 * n - 2) = 2 * n - 2 := wrap64_in (by omega) (by omega)
  clear hf hs
  clear hA hF hP hT hC
  have HB0 : Hid (Below w.heap.size w w) := hid (Below.refl _ _)
  go_enter Try.func7, Try.ntmps7
  go_wp2_with fail
  refine (HA.out w).mono ?_
  rintro e w1 ⟨rfl, hb⟩
  have HB1 : Hid (Below w.heap.size w w1) := hid (HB0.out.trans (hb.mono HB0.out.size))
  clear hb HB0
  go_wp2_with fail
  refine (HF.out w1).mono ?_
  rintro e w2 ⟨rfl, hb⟩
  have HB2 : Hid (Below w.heap.size w w2) := hid (HB1.out.trans (hb.mono HB1.out.size))
  clear hb HB1
  go_wp2_with fail
  refine (HP.out w2).mono ?_
  rintro e w3 ⟨rfl, hb⟩
  have HB3 : Hid (Below w.heap.size w w3) := hid (HB2.out.trans (hb.mono HB2.out.size))
  clear hb HB2
  go_wp2_with fail
  refine (HT.out w3).mono ?_
  rintro e w4 ⟨AP, cAP, rfl, hq, hb⟩
  have HB4 : Hid (Below w.heap.size w w4) := hid (HB3.out.trans (hb.mono HB3.out.size))
  have QAP := hid hq
  clear hb hq HB3
  go_wp2_with fail
  refine (HC.out w4).mono ?_
  rintro e w5 ⟨AC, cAC, rfl, hq, hb⟩
  have HB5 : Hid (Below w.heap.size w w5) := hid (HB4.out.trans (hb.mono HB4.out.size))
  have QAP := hid (sq_onI QAP.out hb)
  have QAC := hid hq
  clear hb hq HB4
  go_wp2
  go_ret
  exact ⟨rfl, HB5.out⟩
set_option maxHeartbeats 2000000 in
theorem back_leaf (hA : AliveOk) (q k : Nat) (hq : q < 2 ^ k) (hk : k ≤ 16) (x n : Int) (hx : x = (nd q 0 : Int)) (hn : n = ((2 ^ (0 + k) : Nat) : Int)) (hUp : UpOk q 0 k x n) (w : World) (hF : ∀ W, Calls Try.prog 18 #[.int .i64 n] W (RetB W (fitB n))) (hLe : ∀ W, Calls Try.prog 16 #[.int .i64 x] W (RetI W (-1))) (hRi : ∀ W, Calls Try.prog 17 #[.int .i64 x] W (RetI W (-1))) : Calls Try.prog 7 #[.int .i64 x, .int .i64 n] w (RetB w true) := by
  have HA := hid hA; have HUp := hid hUp; have HLe := hid hLe; have HRi := hid hRi
  have hf : fitB n = true := by rw [hn]; exact fitB_pow (by omega)
  have HF := hid hF
  rw [hf] at HF
  have hs := fit_small hf
  have h0 : ¬ x < 0 := by omega
  have h1 : ¬ 2 * n - 2 < x := by
    have h2 := hi_bound (l := 0) hq
    have h3 := le_hi q 0
    omega
  have hw1 : wrap64 (2 * n) = 2 * n := wrap64_in (by omega) (by omega)
  have hw2 : wrap64 (2 * n - 2) = 2 * n - 2 := wrap64_in (by omega) (by omega)
  have hw3 : wrap64 (n - 1) = n - 1 := wrap64_in (by omega) (by omega)
  have hpar := nd_par q 0
  have hp1 : Int.tmod x 2 = 0 := by rw [Int.tmod_eq_emod_of_nonneg (by omega), hx]; omega
  have hp2 : x % 2 = 0 := by rw [hx]; omega
  have hnb : ∀ (W : World) (p q : Bool), (binOp .neq 4 (.bool p) (.bool q)).run Try.prog W = .ok (.bool (!(p == q))) W := fun W p q => run_neq_bool W 4 p q Try.underlying4
  have HX : Hid (x = (nd q 0 : Int)) := hid hx
  have HK : Hid (0 + k ≤ 16) := hid (by omega)
  have HTop : Hid (((nd (q / 2 ^ k) (0 + k) : Nat) : Int) = n - 1) := hid (by rw [nd_top hq, hn]; have := Nat.one_le_two_pow (n := 0 + k); omega)
  clear hA hUp hF hLe hRi hf hs hpar hq hk hx hn
  have HB0 : Hid (Below w.heap.size w w) := hid (Below.refl _ _)
  go_enter Try.func7, Try.ntmps7
  go_wp2_with fail
  refine (HA.out w).mono ?_
  rintro e w1 ⟨rfl, hb⟩
  have HB1 : Hid (Below w.heap.size w w1) := hid (HB0.out.trans (hb.mono HB0.out.size))
  clear hb HB0
  go_wp2_with fail
  refine (HF.out w1).mono ?_
  rintro e w2 ⟨rfl, hb⟩
  have HB2 : Hid (Below w.heap.size w w2) := hid (HB1.out.trans (hb.mono HB1.out.size))
  clear hb HB1
  go_wp2_with fail
  refine (HLe.out w2).mono ?_
  rintro e w3 ⟨rfl, hb⟩
  have HB3 : Hid (Below w.heap.size w w3) := hid (HB2.out.trans (hb.mono HB2.out.size))
  clear hb HB2
  go_wp2_with fail
  refine (HRi.out w3).mono ?_
  rintro e w4 ⟨rfl, hb⟩
  have HB4 : Hid (Below w.heap.size w w4) := hid (HB3.out.trans (hb.mono HB3.out.size))
  clear hb HB3
  go_wp2_with fail
  refine (HUp.out.path w4).mono ?_
  rintro e w5 ⟨AP, cAP, rfl, hq, hb⟩
  have HB5 : Hid (Below w.heap.size w w5) := hid (HB4.out.trans (hb.mono HB4.out.size))
  have QAP := hid hq
  clear hb hq HB4
  go_wp2
  go_loopg [8, 9] k (fun r at_ i wr => ∃ j : Nat, j + r = k ∧ at_ = .int .i64 (nd (q / 2 ^ j) (0 + j) : Int) ∧ i = .int .i64 (j : Int) ∧ Below w5.heap.size w5 wr)
  case atStart => exact ⟨0, by omega, by rw [HX.out]; simp, rfl, Below.refl _ _⟩
  case round =>
    clear hp1 hp2 hnb hw1 hw2 h0 h1
    obtain ⟨j, hj, rfl, rfl, hb⟩ := hrel
    have HJ := hid hj
    have HBr := hid (HB5.out.trans (hb.mono HB5.out.size))
    by_cases hlt : j < k
    · have hji : (j : Int) < (k : Int) := by omega
      have hj0 : (0 : Int) ≤ (j : Int) := by omega
      obtain ⟨b, o, rfl, hbb, -⟩ := sq_capI QAP.out (by rw [pathL_length]; omega)
      have hcell := sq_numI (sq_onI QAP.out hb) (pathL_get q 0 k j hlt)
      rw [show 0 + j + 1 = 0 + (j + 1) by omega] at hcell
      have HL1 := hid (fun W => HUp.out.level (j + 1) W hlt)
      have HL0 := hid (fun W => HUp.out.level j W (by omega))
      have HU1 := hid (fun W => HUp.out.up j W hlt)
      have HU2 := hid (fun W => HUp.out.down j W hlt)
      obtain ⟨p, hp⟩ : ∃ p, p = nd (q / 2 ^ j) (0 + j) := ⟨_, rfl⟩
      obtain ⟨p', hp'⟩ : ∃ p, p = nd (q / 2 ^ (j + 1)) (0 + (j + 1)) := ⟨_, rfl⟩
      rw [← hp'] at hcell HL1
      rw [← hp] at HL0
      rw [← hp, ← hp'] at HU1 HU2
      rw [← hp]
      obtain ⟨m, hm⟩ : ∃ m, m = 0 + j := ⟨_, rfl⟩
      rw [show 0 + (j + 1) = m + 1 by omega] at HL1
      rw [← hm] at HL0
      have hm16 := HK.out
      have hwm := wrap_succ (show m ≤ 100 by clear hp hp'; omega)
      have hwj := wrap_succ (show j ≤ 100 by clear hp hp' hwm; omega)
      have hblt : b < wr.heap.size := Nat.lt_of_lt_of_le hbb hb.size
      have HP' := hid hp'
      have HLT := hid hlt
      clear hm hp hp' hm16 hj hbb hlt
      go_wp2_with fail
      refine (HL1.out wr).mono ?_
      rintro e r1 ⟨rfl, hb2⟩
      have HBr2 := hid (HBr.out.trans (hb2.mono HBr.out.size))
      have hcell := (hb2.cell (p := ⟨b, o + j, none⟩) hblt).trans hcell
      have hblt := Nat.lt_of_lt_of_le hblt hb2.size
      have hbP := hb.trans (hb2.mono hb.size)
      clear HBr hb
      have HBr := HBr2
      have hb := hbP
      clear HBr2 hbP hb2
      go_wp2_with fail
      refine (HL0.out r1).mono ?_
      rintro e r2 ⟨rfl, hb2⟩
      have HBr2 := hid (HBr.out.trans (hb2.mono HBr.out.size))
      have hcell := (hb2.cell (p := ⟨b, o + j, none⟩) hblt).trans hcell
      have hblt := Nat.lt_of_lt_of_le hblt hb2.size
      have hbP := hb.trans (hb2.mono hb.size)
      clear HBr hb
      have HBr := HBr2
      have hb := hbP
      clear HBr2 hbP hb2
      go_wp2_with fail
      refine (HU1.out r2).mono ?_
      rintro e r3 ⟨rfl, hb2⟩
      have HBr2 := hid (HBr.out.trans (hb2.mono HBr.out.size))
      have hcell := (hb2.cell (p := ⟨b, o + j, none⟩) hblt).trans hcell
      have hblt := Nat.lt_of_lt_of_le hblt hb2.size
      have hbP := hb.trans (hb2.mono hb.size)
      clear HBr hb
      have HBr := HBr2
      have hb := hbP
      clear HBr2 hbP hb2
      go_wp2_with fail
      refine (HU2.out r3).mono ?_
      rintro e r4 ⟨rfl, hb2⟩
      have HBr2 := hid (HBr.out.trans (hb2.mono HBr.out.size))
      have hcell := (hb2.cell (p := ⟨b, o + j, none⟩) hblt).trans hcell
      have hblt := Nat.lt_of_lt_of_le hblt hb2.size
      have hbP := hb.trans (hb2.mono hb.size)
      clear HBr hb
      have HBr := HBr2
      have hb := hbP
      clear HBr2 hbP hb2
      have HBe := hid hb
      clear hb
      go_wp2
      clear hwm hwj hw3
      have hj := HJ.out; have hlt := HLT.out
      go_roundg (k - j - 1)
      case measure => omega
      case rel => exact ⟨j + 1, by omega, by rw [HP'.out], by rw [wrap_succ (by have := HK.out; omega)]; rfl, HBe.out⟩
    · obtain rfl : j = k := by omega
      have htop := HTop.out
      rw [htop]
      have hkk : ¬ (j : Int) < (j : Int) := by omega
      clear hj hlt HJ hb htop
      go_wp2_with fail
      refine (HUp.out.root wr).mono ?_
      rintro e r1 ⟨rfl, hb⟩
      have HBf := hid (HBr.out.trans (hb.mono HBr.out.size))
      clear hb HBr
      go_wp2
      go_ret
      exact ⟨rfl, HBf.out⟩
set_option maxHeartbeats 2000000 in
theorem back_inner (hA : AliveOk) (q l k : Nat) (hq : q < 2 ^ k) (hk : l + 1 + k ≤ 16) (x n : Int) (hx : x = (nd q (l + 1) : Int)) (hn : n = ((2 ^ (l + 1 + k) : Nat) : Int)) (hUp : UpOk q (l + 1) k x n) (w : World) (hF : ∀ W, Calls Try.prog 18 #[.int .i64 n] W (RetB W (fitB n))) (hLe : ∀ W, Calls Try.prog 16 #[.int .i64 x] W (RetI W (nd (2 * q) l : Int))) (hRi : ∀ W, Calls Try.prog 17 #[.int .i64 x] W (RetI W (nd (2 * q + 1) l : Int))) (hPa : ∀ W, Calls Try.prog 20 #[.int .i64 (nd (2 * q) l : Int), .int .i64 n] W (RetI W x)) (hPb : ∀ W, Calls Try.prog 20 #[.int .i64 (nd (2 * q + 1) l : Int), .int .i64 n] W (RetI W x)) (hSa : ∀ W, Calls Try.prog 22 #[.int .i64 (nd (2 * q) l : Int), .int .i64 n] W (RetI W (nd (2 * q + 1) l : Int))) (hSb : ∀ W, Calls Try.prog 22 #[.int .i64 (nd (2 * q + 1) l : Int), .int .i64 n] W (RetI W (nd (2 * q) l : Int))) : Calls Try.prog 7 #[.int .i64 x, .int .i64 n] w (RetB w true) := by
  have HA := hid hA; have HUp := hid hUp; have HLe := hid hLe; have HRi := hid hRi; have HPa := hid hPa; have HPb := hid hPb; have HSa := hid hSa; have HSb := hid hSb
  have hf : fitB n = true := by rw [hn]; exact fitB_pow (by omega)
  have HF := hid hF
  rw [hf] at HF
  have hs := fit_small hf
  have h0 : ¬ x < 0 := by omega
  have h1 : ¬ 2 * n - 2 < x := by
    have h2 := hi_bound (l := (l + 1)) hq
    have h3 := le_hi q (l + 1)
    omega
  have hw1 : wrap64 (2 * n) = 2 * n := wrap64_in (by omega) (by omega)
  have hw2 : wrap64 (2 * n - 2) = 2 * n - 2 := wrap64_in (by omega) (by omega)
  have hw3 : wrap64 (n - 1) = n - 1 := wrap64_in (by omega) (by omega)
  have hpar := nd_par q (l + 1)
  have hp1 : Int.tmod x 2 = 1 := by rw [Int.tmod_eq_emod_of_nonneg (by omega), hx]; omega
  have hp2 : x % 2 = 1 := by rw [hx]; omega
  have hnl := nd_left q l
  have hnr := nd_right q l
  have hx2 := le_hi q (l + 1)
  have hx3 := hi_bound (l := l + 1) hq
  obtain ⟨a, ha⟩ : ∃ a, a = nd (2 * q) l := ⟨_, rfl⟩
  obtain ⟨b, hb⟩ : ∃ a, a = nd (2 * q + 1) l := ⟨_, rfl⟩
  rw [← ha] at HLe HPa HSa HSb hnl
  rw [← hb] at HRi HPb HSb HSa hnr
  have hsum : (a : Int) + (b : Int) = 2 * x := by rw [hx]; omega
  have hwx : wrap64 (2 * x) = 2 * x := wrap64_in (by omega) (by omega)
  have hws : wrap64 ((a : Int) + (b : Int)) = 2 * x := by rw [hsum]; exact hwx
  have ha0 : ¬ (a : Int) < 0 := by omega
  have hb0 : ¬ (b : Int) < 0 := by omega
  have ha1 : (0 : Int) ≤ (a : Int) := by omega
  clear hnl hnr hx2 hx3 ha hb hsum hPa hPb hSa hSb
  have hnb : ∀ (W : World) (p q : Bool), (binOp .neq 4 (.bool p) (.bool q)).run Try.prog W = .ok (.bool (!(p == q))) W := fun W p q => run_neq_bool W 4 p q Try.underlying4
  have HX : Hid (x = (nd q (l + 1) : Int)) := hid hx
  have HK : Hid ((l + 1) + k ≤ 16) := hid (by omega)
  have HTop : Hid (((nd (q / 2 ^ k) ((l + 1) + k) : Nat) : Int) = n - 1) := hid (by rw [nd_top hq, hn]; have := Nat.one_le_two_pow (n := (l + 1) + k); omega)
  clear hA hUp hF hLe hRi hf hs hpar hq hk hx hn
  have HB0 : Hid (Below w.heap.size w w) := hid (Below.refl _ _)
  go_enter Try.func7, Try.ntmps7
  go_wp2_with fail
  refine (HA.out w).mono ?_
  rintro e w1 ⟨rfl, hb⟩
  have HB1 : Hid (Below w.heap.size w w1) := hid (HB0.out.trans (hb.mono HB0.out.size))
  clear hb HB0
  go_wp2_with fail
  refine (HF.out w1).mono ?_
  rintro e w2 ⟨rfl, hb⟩
  have HB2 : Hid (Below w.heap.size w w2) := hid (HB1.out.trans (hb.mono HB1.out.size))
  clear hb HB1
  go_wp2_with fail
  refine (HLe.out w2).mono ?_
  rintro e w3 ⟨rfl, hb⟩
  have HB3 : Hid (Below w.heap.size w w3) := hid (HB2.out.trans (hb.mono HB2.out.size))
  clear hb HB2
  go_wp2_with fail
  refine (HRi.out w3).mono ?_
  rintro e w4 ⟨rfl, hb⟩
  have HB4 : Hid (Below w.heap.size w w4) := hid (HB3.out.trans (hb.mono HB3.out.size))
  clear hb HB3
  go_wp2_with fail
  refine (HPa.out w4).mono ?_
  rintro e w5 ⟨rfl, hb⟩
  have HB5 : Hid (Below w.heap.size w w5) := hid (HB4.out.trans (hb.mono HB4.out.size))
  clear hb HB4
  go_wp2_with fail
  refine (HPb.out w5).mono ?_
  rintro e w6 ⟨rfl, hb⟩
  have HB6 : Hid (Below w.heap.size w w6) := hid (HB5.out.trans (hb.mono HB5.out.size))
  clear hb HB5
  go_wp2_with fail
  refine (HSa.out w6).mono ?_
  rintro e w7 ⟨rfl, hb⟩
  have HB7 : Hid (Below w.heap.size w w7) := hid (HB6.out.trans (hb.mono HB6.out.size))
  clear hb HB6
  go_wp2_with fail
  refine (HSb.out w7).mono ?_
  rintro e w8 ⟨rfl, hb⟩
  have HB8 : Hid (Below w.heap.size w w8) := hid (HB7.out.trans (hb.mono HB7.out.size))
  clear hb HB7
  go_wp2_with fail
  refine (HUp.out.path w8).mono ?_
  rintro e w9 ⟨AP, cAP, rfl, hq, hb⟩
  have HB9 : Hid (Below w.heap.size w w9) := hid (HB8.out.trans (hb.mono HB8.out.size))
  have QAP := hid hq
  clear hb hq HB8
  go_wp2
  go_loopg [8, 9] k (fun r at_ i wr => ∃ j : Nat, j + r = k ∧ at_ = .int .i64 (nd (q / 2 ^ j) (l + 1 + j) : Int) ∧ i = .int .i64 (j : Int) ∧ Below w9.heap.size w9 wr)
  case atStart => exact ⟨0, by omega, by rw [HX.out]; simp, rfl, Below.refl _ _⟩
  case round =>
    clear hp1 hp2 hnb hw1 hw2 h0 h1 hwx hws ha0 hb0 ha1
    obtain ⟨j, hj, rfl, rfl, hb⟩ := hrel
    have HJ := hid hj
    have HBr := hid (HB9.out.trans (hb.mono HB9.out.size))
    by_cases hlt : j < k
    · have hji : (j : Int) < (k : Int) := by omega
      have hj0 : (0 : Int) ≤ (j : Int) := by omega
      obtain ⟨b, o, rfl, hbb, -⟩ := sq_capI QAP.out (by rw [pathL_length]; omega)
      have hcell := sq_numI (sq_onI QAP.out hb) (pathL_get q (l + 1) k j hlt)
      rw [show l + 1 + j + 1 = l + 1 + (j + 1) by omega] at hcell
      have HL1 := hid (fun W => HUp.out.level (j + 1) W hlt)
      have HL0 := hid (fun W => HUp.out.level j W (by omega))
      have HU1 := hid (fun W => HUp.out.up j W hlt)
      have HU2 := hid (fun W => HUp.out.down j W hlt)
      obtain ⟨p, hp⟩ : ∃ p, p = nd (q / 2 ^ j) (l + 1 + j) := ⟨_, rfl⟩
      obtain ⟨p', hp'⟩ : ∃ p, p = nd (q / 2 ^ (j + 1)) (l + 1 + (j + 1)) := ⟨_, rfl⟩
      rw [← hp'] at hcell HL1
      rw [← hp] at HL0
      rw [← hp, ← hp'] at HU1 HU2
      rw [← hp]
      obtain ⟨m, hm⟩ : ∃ m, m = l + 1 + j := ⟨_, rfl⟩
      rw [show l + 1 + (j + 1) = m + 1 by omega] at HL1
      rw [← hm] at HL0
      have hm16 := HK.out
      have hwm := wrap_succ (show m ≤ 100 by clear hp hp'; omega)
      have hwj := wrap_succ (show j ≤ 100 by clear hp hp' hwm; omega)
      have hblt : b < wr.heap.size := Nat.lt_of_lt_of_le hbb hb.size
      have HP' := hid hp'
      have HLT := hid hlt
      clear hm hp hp' hm16 hj hbb hlt
      go_wp2_with fail
      refine (HL1.out wr).mono ?_
      rintro e r1 ⟨rfl, hb2⟩
      have HBr2 := hid (HBr.out.trans (hb2.mono HBr.out.size))
      have hcell := (hb2.cell (p := ⟨b, o + j, none⟩) hblt).trans hcell
      have hblt := Nat.lt_of_lt_of_le hblt hb2.size
      have hbP := hb.trans (hb2.mono hb.size)
      clear HBr hb
      have HBr := HBr2
      have hb := hbP
      clear HBr2 hbP hb2
      go_wp2_with fail
      refine (HL0.out r1).mono ?_
      rintro e r2 ⟨rfl, hb2⟩
      have HBr2 := hid (HBr.out.trans (hb2.mono HBr.out.size))
      have hcell := (hb2.cell (p := ⟨b, o + j, none⟩) hblt).trans hcell
      have hblt := Nat.lt_of_lt_of_le hblt hb2.size
      have hbP := hb.trans (hb2.mono hb.size)
      clear HBr hb
      have HBr := HBr2
      have hb := hbP
      clear HBr2 hbP hb2
      go_wp2_with fail
      refine (HU1.out r2).mono ?_
      rintro e r3 ⟨rfl, hb2⟩
      have HBr2 := hid (HBr.out.trans (hb2.mono HBr.out.size))
      have hcell := (hb2.cell (p := ⟨b, o + j, none⟩) hblt).trans hcell
      have hblt := Nat.lt_of_lt_of_le hblt hb2.size
      have hbP := hb.trans (hb2.mono hb.size)
      clear HBr hb
      have HBr := HBr2
      have hb := hbP
      clear HBr2 hbP hb2
      go_wp2_with fail
      refine (HU2.out r3).mono ?_
      rintro e r4 ⟨rfl, hb2⟩
      have HBr2 := hid (HBr.out.trans (hb2.mono HBr.out.size))
      have hcell := (hb2.cell (p := ⟨b, o + j, none⟩) hblt).trans hcell
      have hblt := Nat.lt_of_lt_of_le hblt hb2.size
      have hbP := hb.trans (hb2.mono hb.size)
      clear HBr hb
      have HBr := HBr2
      have hb := hbP
      clear HBr2 hbP hb2
      have HBe := hid hb
      clear hb
      go_wp2
      clear hwm hwj hw3
      have hj := HJ.out; have hlt := HLT.out
      go_roundg (k - j - 1)
      case measure => omega
      case rel => exact ⟨j + 1, by omega, by rw [HP'.out], by rw [wrap_succ (by have := HK.out; omega)]; rfl, HBe.out⟩
    · obtain rfl : j = k := by omega
      have htop := HTop.out
      rw [htop]
      have hkk : ¬ (j : Int) < (j : Int) := by omega
      clear hj hlt HJ hb htop
      go_wp2_with fail
      refine (HUp.out.root wr).mono ?_
      rintro e r1 ⟨rfl, hb⟩
      have HBf := hid (HBr.out.trans (hb.mono HBr.out.size))
      clear hb HBr
      go_wp2
      go_ret
      exact ⟨rfl, HBf.out⟩
theorem walkBack_any (hA : AliveOk) (hF : WFits) (hT : WPath) (hC : WCopath) (hP : WParent) (hS : WSibling) (hL : WLevel) (hLe : WLeft) (hRi : WRight) (hU : WUnder) (hR : WRoot) (x n : Int) (w : World) (hx : I64 x) (hn : I64 n) : Calls Try.prog 7 #[.int .i64 x, .int .i64 n] w (RetB w true) := by
  by_cases h : inT x n
  · obtain ⟨q, l, k, hq, hk, he, hne⟩ := h
    have hUp := up_of hq hk he hne hL hU hT hR
    cases l with
    | zero =>
      have h1 := fun W => hLe x W hx
      have h2 := fun W => hRi x W hx
      rw [show leftZ x = -1 by rw [he]; exact leftZ_leaf q] at h1
      rw [show rightZ x = -1 by rw [he]; exact rightZ_leaf q] at h2
      exact back_leaf hA q k hq (by omega) x n he hne hUp w (fun W => hF n W hn) h1 h2
    | succ l =>
      have hq16 : q < 2 ^ (15 - l) := Nat.lt_of_lt_of_le hq (Nat.pow_le_pow_right (by decide) (by omega))
      have h1 := fun W => hLe x W hx
      have h2 := fun W => hRi x W hx
      rw [show leftZ x = (nd (2 * q) l : Int) by rw [he]; exact leftZ_nd hq16 (by omega)] at h1
      rw [show rightZ x = (nd (2 * q + 1) l : Int) by rw [he]; exact rightZ_nd hq16 (by omega)] at h2
      have q1 : 2 * q < 2 ^ (k + 1) := by rw [pow1]; omega
      have q2 : 2 * q + 1 < 2 ^ (k + 1) := by rw [pow1]; omega
      have hne2 : n = ((2 ^ (l + (k + 1)) : Nat) : Int) := by rw [hne, show l + 1 + k = l + (k + 1) by omega]
      have hp := pow_le16 hk
      have b1 := hi_bound (l := l) q1
      have b2 := hi_bound (l := l) q2
      have b3 := le_hi (2 * q) l
      have b4 := le_hi (2 * q + 1) l
      rw [show l + (k + 1) = l + 1 + k by omega] at b1 b2
      have i1 : I64 (nd (2 * q) l : Int) := i64_small (by omega) (by omega)
      have i2 : I64 (nd (2 * q + 1) l : Int) := i64_small (by omega) (by omega)
      have h3 := fun W => hP _ n W i1 hn
      have h4 := fun W => hP _ n W i2 hn
      have h5 := fun W => hS _ n W i1 hn
      have h6 := fun W => hS _ n W i2 hn
      rw [show parentZ (nd (2 * q) l : Int) n = x by rw [hne2, parentZ_nd q1 (by omega), he, show 2 * q / 2 = q by omega]] at h3
      rw [show parentZ (nd (2 * q + 1) l : Int) n = x by rw [hne2, parentZ_nd q2 (by omega), he, show (2 * q + 1) / 2 = q by omega]] at h4
      rw [show sibZ (nd (2 * q) l : Int) n = (nd (2 * q + 1) l : Int) by rw [hne2, sibZ_nd q1 (by omega)]; unfold sbq; rw [if_pos (by omega)]] at h5
      rw [show sibZ (nd (2 * q + 1) l : Int) n = (nd (2 * q) l : Int) by rw [hne2, sibZ_nd q2 (by omega)]; unfold sbq; rw [if_neg (by omega)]; simp] at h6
      exact back_inner hA q l k hq hk x n he hne hUp w (fun W => hF n W hn) h1 h2 h3 h4 h5 h6
  · have h1 := fun W => hP x n W hx hn
    have h2 := fun W => retN (pathZ_no h) (hT x n W hx hn) rfl
    have h3 := fun W => retN (copZ_no h) (hC x n W hx hn) rfl
    rw [parentZ_no h] at h1
    by_cases hf : fitB n = true
    · by_cases h0 : x < 0
      · exact back_neg hA x n w (fun W => hF n W hn) h1 h2 h3 hf h0
      · by_cases h4 : 2 * n - 2 < x
        · exact back_off hA x n w (fun W => hF n W hn) h1 h2 h3 hf h0 h4
        · exact absurd (inT_of hf (by omega) (by omega)) h
    · exact back_no hA x n w (fun W => hF n W hn) h1 h2 h3 (by simpa using hf)
end Go.Proofs.Ytaoddlcoedodcaa
