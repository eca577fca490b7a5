/-
  Texts of this claim in one file: WkP.
-/
import Derived.Test.YthooibljnfnnhaaPk25
section
namespace Go.Proofs.Ythooibljnfnnhaa
open Go Go.RowKit
set_option linter.unusedVariables false
set_option linter.unusedSimpArgs false
/-- How many ones a number has from its lowest digit on. -/
def lv (x : Nat) : Nat := if h : x % 2 = 1 then lv (x / 2) + 1 else 0
termination_by x
decreasing_by omega
/-- The q-th node of level l. -/
def nd (q l : Nat) : Nat := q * 2 ^ (l + 1) + (2 ^ l - 1)
theorem nd_zero (q : Nat) : nd q 0 = 2 * q := by unfold nd; simp; omega
theorem nd_succ (q l : Nat) : nd q (l + 1) = 2 * nd q l + 1 := by
  unfold nd
  have := Nat.one_le_two_pow (n := l)
  rw [Nat.pow_succ 2 (l + 1), Nat.pow_succ 2 l, Nat.mul_comm _ 2, ← Nat.mul_assoc, Nat.mul_comm q 2, Nat.mul_assoc]
  omega
theorem lv_even {x : Nat} (h : x % 2 = 0) : lv x = 0 := by rw [lv, dif_neg (by omega)]
theorem lv_odd {x : Nat} (h : x % 2 = 1) : lv x = lv (x / 2) + 1 := by rw [lv, dif_pos h]
theorem lv_nd (q l : Nat) : lv (nd q l) = l := by
  induction l with
  | zero => rw [nd_zero]; exact lv_even (by omega)
  | succ l ih => rw [nd_succ, lv_odd (by omega), show (2 * nd q l + 1) / 2 = nd q l by omega, ih]
theorem nd_div (q l : Nat) : nd q l / 2 ^ (l + 1) = q := by
  unfold nd
  have h := Nat.two_pow_pos l
  rw [Nat.mul_comm, Nat.mul_add_div (Nat.two_pow_pos _), Nat.div_eq_of_lt (by rw [Nat.pow_succ]; omega), Nat.add_zero]
/-- Where a node stands in its level. -/
def qt (x : Nat) : Nat := x / 2 ^ (lv x + 1)
theorem qt_nd (q l : Nat) : qt (nd q l) = q := by unfold qt; rw [lv_nd, nd_div]
theorem nd_of (x : Nat) : nd (qt x) (lv x) = x := by
  induction x using Nat.strongRecOn with
  | ind x ih =>
    by_cases h : x % 2 = 1
    · have h1 := ih (x / 2) (by omega)
      unfold qt at h1 ⊢
      rw [lv_odd h, nd_succ, show x / 2 ^ (lv (x / 2) + 1 + 1) = x / 2 / 2 ^ (lv (x / 2) + 1) by rw [Nat.div_div_eq_div_mul, ← Nat.pow_succ'], h1]
      omega
    · unfold qt
      rw [lv_even (by omega), nd_zero]
      omega
theorem nd_inj {q l q' l' : Nat} (h : nd q l = nd q' l') : q = q' ∧ l = l' := by
  have h1 := congrArg lv h
  have h2 := congrArg qt h
  rw [lv_nd, lv_nd] at h1
  rw [qt_nd, qt_nd] at h2
  exact ⟨h2, h1⟩
/-- The first and the last number beneath. -/
def loN (q l : Nat) : Nat := q * 2 ^ (l + 1)
def hiN (q l : Nat) : Nat := q * 2 ^ (l + 1) + (2 ^ (l + 1) - 2)
theorem pow1 (l : Nat) : 2 ^ (l + 1) = 2 * 2 ^ l := by rw [Nat.pow_succ, Nat.mul_comm]
theorem lo_nd (q l : Nat) : loN q l + (2 ^ l - 1) = nd q l := rfl
theorem nd_hi (q l : Nat) : nd q l + (2 ^ l - 1) = hiN q l := by
  unfold nd hiN
  have := Nat.one_le_two_pow (n := l)
  rw [pow1 l]; omega
theorem lo_left (q l : Nat) : loN (2 * q) l = loN q (l + 1) := by unfold loN; rw [pow1 (l + 1), Nat.mul_comm 2 q, Nat.mul_assoc]
theorem hi_right (q l : Nat) : hiN (2 * q + 1) l = hiN q (l + 1) := by
  unfold hiN
  have := Nat.one_le_two_pow (n := l)
  rw [pow1 (l + 1), Nat.add_mul, Nat.mul_comm 2 q, Nat.mul_assoc, pow1 l]; omega
theorem nd_left (q l : Nat) : nd (2 * q) l + 2 ^ l = nd q (l + 1) := by
  unfold nd
  have := Nat.one_le_two_pow (n := l)
  rw [pow1 (l + 1), pow1 l, Nat.mul_comm 2 q, Nat.mul_assoc]; omega
theorem nd_right (q l : Nat) : nd (2 * q + 1) l = nd q (l + 1) + 2 ^ l := by
  unfold nd
  have := Nat.one_le_two_pow (n := l)
  rw [pow1 (l + 1), pow1 l, Nat.add_mul, Nat.mul_comm 2 q, Nat.mul_assoc]; omega
/-- Nodes of the tree of 2^h leaves. -/
theorem in_tree {x h : Nat} : x ≤ 2 * 2 ^ h - 2 ↔ lv x ≤ h ∧ qt x < 2 ^ (h - lv x) := by
  obtain ⟨q, l, rfl⟩ : ∃ q l, x = nd q l := ⟨_, _, (nd_of x).symm⟩
  rw [lv_nd, qt_nd]
  have hh := Nat.one_le_two_pow (n := h)
  have hl := Nat.one_le_two_pow (n := l)
  constructor
  · intro hx
    have h1 : l ≤ h := by
      rcases Nat.lt_or_ge h l with hlt | hge
      · have h2 : 2 ^ (h + 1) ≤ 2 ^ l := Nat.pow_le_pow_right (by decide) hlt
        unfold nd at hx
        rw [pow1 h] at h2
        omega
      · exact hge
    refine ⟨h1, ?_⟩
    obtain ⟨k, rfl⟩ : ∃ k, h = l + k := ⟨h - l, by omega⟩
    rw [Nat.add_sub_cancel_left]
    rcases Nat.lt_or_ge q (2 ^ k) with hlt | hge
    · exact hlt
    · have h2 : 2 ^ k * 2 ^ (l + 1) ≤ q * 2 ^ (l + 1) := Nat.mul_le_mul_right _ hge
      rw [← Nat.pow_add, show k + (l + 1) = l + k + 1 by omega, pow1 (l + k)] at h2
      unfold nd at hx
      omega
  · rintro ⟨h1, h2⟩
    obtain ⟨k, rfl⟩ : ∃ k, h = l + k := ⟨h - l, by omega⟩
    rw [Nat.add_sub_cancel_left] at h2
    have h3 : (q + 1) * 2 ^ (l + 1) ≤ 2 ^ k * 2 ^ (l + 1) := Nat.mul_le_mul_right _ h2
    rw [← Nat.pow_add, show k + (l + 1) = l + k + 1 by omega, pow1 (l + k), Nat.add_mul, Nat.one_mul] at h3
    unfold nd
    have h4 := pow1 l
    omega
/-- The other child of the parent. -/
def sbq (q : Nat) : Nat := if q % 2 = 0 then q + 1 else q - 1
theorem sbq_div (q : Nat) : sbq q / 2 = q / 2 := by unfold sbq; split <;> omega
theorem sbq_lt {q k : Nat} (h : q < 2 ^ (k + 1)) : sbq q < 2 ^ (k + 1) := by rw [pow1] at *; unfold sbq; split <;> omega
/-- Up from a node, k steps; the siblings on the way. -/
def pathL (q l : Nat) : Nat → List Nat
  | 0 => []
  | k + 1 => nd (q / 2) (l + 1) :: pathL (q / 2) (l + 1) k
def copL (q l : Nat) : Nat → List Nat
  | 0 => []
  | k + 1 => nd (sbq q) l :: copL (q / 2) (l + 1) k
theorem pathL_length (q l k : Nat) : (pathL q l k).length = k := by
  induction k generalizing q l with
  | zero => rfl
  | succ k ih => simp [pathL, ih]
theorem copL_length (q l k : Nat) : (copL q l k).length = k := by
  induction k generalizing q l with
  | zero => rfl
  | succ k ih => simp [copL, ih]
theorem pathL_get (q l k i : Nat) (h : i < k) : (pathL q l k)[i]? = some (nd (q / 2 ^ (i + 1)) (l + i + 1)) := by
  induction k generalizing q l i with
  | zero => omega
  | succ k ih =>
    cases i with
    | zero => simp [pathL]
    | succ i =>
      rw [pathL, List.getElem?_cons_succ, ih _ _ _ (by omega), Nat.div_div_eq_div_mul, ← Nat.pow_succ', show l + 1 + i + 1 = l + (i + 1) + 1 by omega]
theorem copL_get (q l k i : Nat) (h : i < k) : (copL q l k)[i]? = some (nd (sbq (q / 2 ^ i)) (l + i)) := by
  induction k generalizing q l i with
  | zero => omega
  | succ k ih =>
    cases i with
    | zero => simp [copL]
    | succ i =>
      rw [copL, List.getElem?_cons_succ, ih _ _ _ (by omega), Nat.div_div_eq_div_mul, ← Nat.pow_succ', show l + 1 + i = l + (i + 1) by omega]
/-- The way down from the root, k steps above a node. -/
def chain (q l : Nat) : Nat → List (Nat × Nat)
  | 0 => [(q, l)]
  | k + 1 => chain (q / 2) (l + 1) k ++ [(q, l)]
theorem chain_length (q l k : Nat) : (chain q l k).length = k + 1 := by
  induction k generalizing q l with
  | zero => rfl
  | succ k ih => simp [chain, ih]
theorem chain_get (q l k r : Nat) (h : r ≤ k) : (chain q l k)[k - r]? = some (q / 2 ^ r, l + r) := by
  induction k generalizing q l r with
  | zero =>
    obtain rfl : r = 0 := by omega
    simp [chain]
  | succ k ih =>
    rw [chain]
    cases r with
    | zero => rw [Nat.sub_zero, List.getElem?_append_right (by rw [chain_length]; exact Nat.le_refl _), chain_length]; simp
    | succ r =>
      rw [show k + 1 - (r + 1) = k - r by omega, List.getElem?_append_left (by rw [chain_length]; omega), ih _ _ _ (by omega), Nat.div_div_eq_div_mul, ← Nat.pow_succ', show l + 1 + r = l + (r + 1) by omega]
theorem chain_next (q l k r : Nat) (h : r ≤ k) : (chain q l k).take (k - r) ++ [(q / 2 ^ r, l + r)] = (chain q l k).take (k - r + 1) := by
  have hg := chain_get q l k r h
  obtain ⟨h1, h2⟩ := List.getElem?_eq_some_iff.1 hg
  rw [List.take_succ_eq_append_getElem h1, h2]
/-- A node lies beneath those above it. -/
theorem up_step (Q l : Nat) : loN (Q / 2) (l + 1) ≤ loN Q l ∧ hiN Q l ≤ hiN (Q / 2) (l + 1) := by
  have e1 := lo_left (Q / 2) l
  have e2 := hi_right (Q / 2) l
  have hl : ∀ a b : Nat, a ≤ b → loN a l ≤ loN b l := fun a b h => by unfold loN; exact Nat.mul_le_mul_right _ h
  have hh : ∀ a b : Nat, a ≤ b → hiN a l ≤ hiN b l := fun a b h => by unfold hiN; exact Nat.add_le_add_right (Nat.mul_le_mul_right _ h) _
  rw [← e1, ← e2]
  exact ⟨hl _ _ (by omega), hh _ _ (by omega)⟩
theorem lo_le (q l : Nat) : loN q l ≤ nd q l := by have := lo_nd q l; omega
theorem le_hi (q l : Nat) : nd q l ≤ hiN q l := by have := nd_hi q l; omega
theorem up_in (q l r : Nat) : loN (q / 2 ^ r) (l + r) ≤ loN q l ∧ hiN q l ≤ hiN (q / 2 ^ r) (l + r) := by
  induction r with
  | zero => simp
  | succ r ih =>
    have h := up_step (q / 2 ^ r) (l + r)
    rw [Nat.div_div_eq_div_mul, ← Nat.pow_succ] at h
    rw [show l + (r + 1) = l + r + 1 by omega]
    exact ⟨Nat.le_trans h.1 ih.1, Nat.le_trans ih.2 h.2⟩
theorem lo_hi (q l : Nat) : loN q l + hiN q l = 2 * nd q l := by have := lo_nd q l; have := nd_hi q l; omega
theorem hi_bound {q l k : Nat} (h : q < 2 ^ k) : hiN q l + 2 ≤ 2 * 2 ^ (l + k) := by
  unfold hiN
  have h3 : (q + 1) * 2 ^ (l + 1) ≤ 2 ^ k * 2 ^ (l + 1) := Nat.mul_le_mul_right _ h
  rw [← Nat.pow_add, show k + (l + 1) = l + k + 1 by omega, pow1 (l + k), Nat.add_mul, Nat.one_mul] at h3
  have := Nat.one_le_two_pow (n := l)
  rw [pow1 l] at *
  omega
theorem div_lt {q k r : Nat} (h : q < 2 ^ k) (hr : r ≤ k) : q / 2 ^ r < 2 ^ (k - r) := by
  rw [Nat.div_lt_iff_lt_mul (Nat.two_pow_pos _), ← Nat.pow_add, show k - r + r = k by omega]; exact h
/-- One step down: to the left or to the right. -/
theorem down_left {q l r : Nat} (h : (q / 2 ^ r) % 2 = 0) : nd q l < nd (q / 2 ^ (r + 1)) (l + r + 1) ∧ loN (q / 2 ^ (r + 1)) (l + r + 1) = loN (q / 2 ^ r) (l + r) ∧ nd (q / 2 ^ (r + 1)) (l + r + 1) = hiN (q / 2 ^ r) (l + r) + 1 := by
  have hd : q / 2 ^ (r + 1) = q / 2 ^ r / 2 := by rw [Nat.div_div_eq_div_mul, ← Nat.pow_succ]
  have he : 2 * (q / 2 ^ (r + 1)) = q / 2 ^ r := by omega
  have h1 := nd_left (q / 2 ^ (r + 1)) (l + r)
  have h2 := nd_hi (q / 2 ^ r) (l + r)
  have h3 := lo_left (q / 2 ^ (r + 1)) (l + r)
  have h4 := up_in q l r
  have h5 := le_hi q l
  have := Nat.one_le_two_pow (n := l + r)
  rw [he] at h1 h3
  exact ⟨by omega, by omega, by omega⟩
theorem down_right {q l r : Nat} (h : (q / 2 ^ r) % 2 = 1) : nd (q / 2 ^ (r + 1)) (l + r + 1) < nd q l ∧ hiN (q / 2 ^ (r + 1)) (l + r + 1) = hiN (q / 2 ^ r) (l + r) ∧ nd (q / 2 ^ (r + 1)) (l + r + 1) + 1 = loN (q / 2 ^ r) (l + r) := by
  have hd : q / 2 ^ (r + 1) = q / 2 ^ r / 2 := by rw [Nat.div_div_eq_div_mul, ← Nat.pow_succ]
  have he : 2 * (q / 2 ^ (r + 1)) + 1 = q / 2 ^ r := by omega
  have h1 := nd_right (q / 2 ^ (r + 1)) (l + r)
  have h2 := lo_nd (q / 2 ^ r) (l + r)
  have h3 := hi_right (q / 2 ^ (r + 1)) (l + r)
  have h4 := up_in q l r
  have h5 := lo_le q l
  have := Nat.one_le_two_pow (n := l + r)
  rw [he] at h1 h3
  exact ⟨by omega, by omega, by omega⟩
theorem up_ne (q l r : Nat) : nd (q / 2 ^ (r + 1)) (l + r + 1) ≠ nd q l := fun h => by have := (nd_inj h).2; omega
end Go.Proofs.Ythooibljnfnnhaa
end
