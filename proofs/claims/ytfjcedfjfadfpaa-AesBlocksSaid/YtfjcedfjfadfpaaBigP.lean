/-
  Digits of base 2^15, plain: the digits of a number, and what they come to.
-/
namespace Go.Proofs.Ytfjcedfjfadfpaa
set_option linter.unusedVariables false
set_option linter.unusedSimpArgs false

/-- The digits of a number, the lowest first, without noughts at the end. -/
def dg (n : Nat) : List Nat := if h : n = 0 then [] else n % 32768 :: dg (n / 32768)
termination_by n
decreasing_by omega
def val : List Nat → Nat
  | [] => 0
  | d :: l => d + 32768 * val l
/-- All are digits. -/
def Dgs (ds : List Nat) : Prop := ∀ x ∈ ds, x < 32768

theorem dg_zero : dg 0 = [] := by rw [dg]; rfl
theorem dg_pos (n : Nat) (h : n ≠ 0) : dg n = n % 32768 :: dg (n / 32768) := by rw [dg]; simp [h]
theorem val_dg (n : Nat) : val (dg n) = n := by
  induction n using Nat.strongRecOn with
  | ind n ih =>
    by_cases h : n = 0
    · subst h; rw [dg_zero]; rfl
    · rw [dg_pos n h, val, ih (n / 32768) (by omega)]; omega
theorem dg_dgs (n : Nat) : Dgs (dg n) := by
  induction n using Nat.strongRecOn with
  | ind n ih =>
    by_cases h : n = 0
    · subst h; rw [dg_zero]; intro x hx; cases hx
    · rw [dg_pos n h]
      intro x hx
      rcases List.mem_cons.1 hx with rfl | hx
      · exact Nat.mod_lt _ (by omega)
      · exact ih (n / 32768) (by omega) x hx
theorem dg_getD (n i : Nat) : (dg n).getD i 0 = n / 32768 ^ i % 32768 := by
  induction i generalizing n with
  | zero =>
    by_cases h : n = 0
    · subst h; rw [dg_zero]; rfl
    · rw [dg_pos n h]; simp
  | succ i ih =>
    by_cases h : n = 0
    · subst h; rw [dg_zero]; simp
    · rw [dg_pos n h, List.getD_cons_succ, ih, Nat.div_div_eq_div_mul, Nat.pow_succ, Nat.mul_comm]
theorem dg_length_le (n k : Nat) : (dg n).length ≤ k ↔ n < 32768 ^ k := by
  induction k generalizing n with
  | zero =>
    by_cases h : n = 0
    · subst h; rw [dg_zero]; simp
    · rw [dg_pos n h]; simp; omega
  | succ k ih =>
    by_cases h : n = 0
    · subst h; rw [dg_zero]; simp; exact Nat.pow_pos (by omega)
    · rw [dg_pos n h, List.length_cons, Nat.succ_le_succ_iff, ih, Nat.div_lt_iff_lt_mul (by omega), Nat.pow_succ]
theorem dg_lt (n : Nat) : n < 32768 ^ (dg n).length := (dg_length_le n _).1 (Nat.le_refl _)
theorem dg_top (n : Nat) (h : (dg n).length ≠ 0) : 32768 ^ ((dg n).length - 1) ≤ n := by
  have := mt (dg_length_le n ((dg n).length - 1)).2 (by omega)
  omega
theorem dg_mono (a b : Nat) (h : a ≤ b) : (dg a).length ≤ (dg b).length := (dg_length_le a _).2 (Nat.lt_of_le_of_lt h (dg_lt b))
theorem dg_get (n i : Nat) (h : i < (dg n).length) : (dg n)[i] = n / 32768 ^ i % 32768 := by
  rw [← dg_getD, List.getD_eq_getElem?_getD, List.getElem?_eq_getElem h]; rfl
theorem dg_short (n i : Nat) (h : (dg n).length ≤ i) : n / 32768 ^ i = 0 := by
  rw [Nat.div_eq_of_lt]
  exact (dg_length_le n i).1 h

theorem val_append (xs ys : List Nat) : val (xs ++ ys) = val xs + 32768 ^ xs.length * val ys := by
  induction xs with
  | nil => simp [val]
  | cons x l ih =>
    rw [List.cons_append, val, ih, val, List.length_cons, Nat.pow_succ, Nat.mul_add]
    rw [Nat.add_assoc, Nat.mul_comm (32768 ^ l.length) 32768, Nat.mul_assoc]
theorem val_snoc (xs : List Nat) (y : Nat) : val (xs ++ [y]) = val xs + 32768 ^ xs.length * y := by
  rw [val_append]; simp [val]
theorem val_lt (xs : List Nat) (h : Dgs xs) : val xs < 32768 ^ xs.length := by
  induction xs with
  | nil => simp [val]
  | cons x l ih =>
    have h1 : x < 32768 := h x (by simp)
    have h2 := ih (fun y hy => h y (by simp [hy]))
    rw [val, List.length_cons, Nat.pow_succ]
    omega
theorem Dgs.snoc {xs : List Nat} {y : Nat} (h : Dgs xs) (hy : y < 32768) : Dgs (xs ++ [y]) := by
  intro x hx
  rcases List.mem_append.1 hx with hx | hx
  · exact h x hx
  · simp at hx; omega
theorem Dgs.take {xs : List Nat} (h : Dgs xs) (k : Nat) : Dgs (xs.take k) := fun x hx => h x (List.mem_of_mem_take hx)
/-- Digits without a nought at the end are the digits of what they come to. -/
theorem dg_val (xs : List Nat) (h : Dgs xs) (hl : ∀ k, xs.length = k + 1 → xs.getD k 0 ≠ 0) : dg (val xs) = xs := by
  induction xs with
  | nil => exact dg_zero
  | cons x l ih =>
    have h1 : x < 32768 := h x (by simp)
    have h2 : Dgs l := fun y hy => h y (by simp [hy])
    have h3 := ih h2 (fun k hk => by
      have := hl (k + 1) (by simp [hk])
      simpa using this)
    have hne : val (x :: l) ≠ 0 := by
      rw [val]
      rcases l with _ | ⟨y, l⟩
      · have := hl 0 rfl
        simp at this
        omega
      · intro e
        have hv : val (y :: l) = 0 := by omega
        rw [hv] at h3
        rw [dg_zero] at h3
        cases h3
    rw [dg_pos _ hne]
    have e1 : val (x :: l) % 32768 = x := by rw [val]; omega
    have e2 : val (x :: l) / 32768 = val l := by rw [val]; omega
    rw [e1, e2, h3]
/-- A nought at the end plays no part. -/
theorem val_take_nought (xs : List Nat) (k : Nat) (hk : xs.length = k + 1) (h : xs.getD k 0 = 0) : val (xs.take k) = val xs := by
  have h0 : xs = xs.take k ++ [0] := by
    have h1 : k < xs.length := by omega
    have h2 : xs[k] = 0 := by rw [List.getD_eq_getElem?_getD, List.getElem?_eq_getElem h1] at h; exact h
    rw [← h2, ← List.take_succ_eq_append_getElem h1, List.take_of_length_le (by omega)]
  conv => rhs; rw [h0]
  rw [val_snoc]; simp
/-- What the first k digits of a number come to, and one more. -/
theorem mod_next (a k : Nat) : a % 32768 ^ (k + 1) = a % 32768 ^ k + 32768 ^ k * (a / 32768 ^ k % 32768) := by
  rw [Nat.pow_succ, Nat.mod_mul]
theorem div_next (a k : Nat) : a / 32768 ^ k = 32768 * (a / 32768 ^ (k + 1)) + a / 32768 ^ k % 32768 := by
  rw [Nat.pow_succ, ← Nat.div_div_eq_div_mul]; omega

/-- One round of a sum. -/
theorem add_round (a b k v c : Nat) (h : v + 32768 ^ k * c = a % 32768 ^ k + b % 32768 ^ k) (hc : c ≤ 1) :
    (v + 32768 ^ k * ((a / 32768 ^ k % 32768 + b / 32768 ^ k % 32768 + c) % 32768)) + 32768 ^ (k + 1) * ((a / 32768 ^ k % 32768 + b / 32768 ^ k % 32768 + c) / 32768) = a % 32768 ^ (k + 1) + b % 32768 ^ (k + 1) ∧ (a / 32768 ^ k % 32768 + b / 32768 ^ k % 32768 + c) / 32768 ≤ 1 := by
  refine ⟨?_, by omega⟩
  rw [mod_next a, mod_next b, Nat.pow_succ]
  generalize a / 32768 ^ k % 32768 = x
  generalize b / 32768 ^ k % 32768 = y
  generalize hP : 32768 ^ k = P at *
  have e := Nat.div_add_mod (x + y + c) 32768
  rw [Nat.add_assoc, Nat.mul_assoc, ← Nat.mul_add P, Nat.add_comm ((x + y + c) % 32768), e]
  rw [Nat.mul_add, Nat.mul_add]
  omega
/-- At the end of a sum. -/
theorem add_end (a b k v : Nat) (h : v + 32768 ^ k * 0 = a % 32768 ^ k + b % 32768 ^ k) (ha : (dg a).length ≤ k) (hb : (dg b).length ≤ k) : v = a + b := by
  rw [Nat.mod_eq_of_lt ((dg_length_le a k).1 ha), Nat.mod_eq_of_lt ((dg_length_le b k).1 hb)] at h
  omega
/-- One round of a difference: v has the first digits, c is what was borrowed. -/
theorem sub_round (a b k v c : Nat) (h : v + b % 32768 ^ k = a % 32768 ^ k + 32768 ^ k * c) (hc : c ≤ 1) :
    let x := a / 32768 ^ k % 32768
    let y := b / 32768 ^ k % 32768
    (x < y + c → (v + 32768 ^ k * (x + 32768 - y - c)) + b % 32768 ^ (k + 1) = a % 32768 ^ (k + 1) + 32768 ^ (k + 1) * 1) ∧
    (y + c ≤ x → (v + 32768 ^ k * (x - y - c)) + b % 32768 ^ (k + 1) = a % 32768 ^ (k + 1) + 32768 ^ (k + 1) * 0) := by
  intro x y
  rw [mod_next a, mod_next b, Nat.pow_succ]
  show (x < y + c → (v + 32768 ^ k * (x + 32768 - y - c)) + (b % 32768 ^ k + 32768 ^ k * y) = (a % 32768 ^ k + 32768 ^ k * x) + 32768 ^ k * 32768 * 1) ∧ (y + c ≤ x → (v + 32768 ^ k * (x - y - c)) + (b % 32768 ^ k + 32768 ^ k * y) = (a % 32768 ^ k + 32768 ^ k * x) + 32768 ^ k * 32768 * 0)
  have hx : x < 32768 := Nat.mod_lt _ (by omega)
  have hy : y < 32768 := Nat.mod_lt _ (by omega)
  generalize x = x at *
  generalize y = y at *
  generalize 32768 ^ k = P at *
  constructor
  · intro hlt
    have e : x + 32768 - y - c + y + c = x + 32768 := by omega
    have e2 : P * (x + 32768 - y - c) + P * y + P * c = P * x + P * 32768 := by
      rw [← Nat.mul_add, ← Nat.mul_add, ← Nat.mul_add, e]
    omega
  · intro hle
    have e : x - y - c + y + c = x := by omega
    have e2 : P * (x - y - c) + P * y + P * c = P * x := by
      rw [← Nat.mul_add, ← Nat.mul_add, e]
    omega
theorem sub_end (a b k v c : Nat) (h : v + b % 32768 ^ k = a % 32768 ^ k + 32768 ^ k * c) (hba : b ≤ a) (ha : (dg a).length ≤ k) (hv : v < 32768 ^ k) : v = a - b := by
  have hak := (dg_length_le a k).1 ha
  rw [Nat.mod_eq_of_lt hak, Nat.mod_eq_of_lt (Nat.lt_of_le_of_lt hba hak)] at h
  rcases Nat.eq_zero_or_pos c with rfl | hc
  · omega
  · have : 32768 ^ k * 1 ≤ 32768 ^ k * c := Nat.mul_le_mul_left _ hc
    omega

/-- Comparing from the top. -/
theorem less_digit (a b k : Nat) (h : a / 32768 ^ (k + 1) = b / 32768 ^ (k + 1)) (hne : a / 32768 ^ k % 32768 ≠ b / 32768 ^ k % 32768) : decide (a < b) = decide (a / 32768 ^ k % 32768 < b / 32768 ^ k % 32768) := by
  have ha := div_next a k
  have hb := div_next b k
  have hP : 0 < 32768 ^ k := Nat.pow_pos (by omega)
  rw [decide_eq_decide]
  constructor
  · intro hlt
    have : a / 32768 ^ k ≤ b / 32768 ^ k := Nat.div_le_div_right (by omega)
    omega
  · intro hlt
    have : a / 32768 ^ k < b / 32768 ^ k := by omega
    rcases Nat.lt_or_ge a b with h1 | h1
    · exact h1
    · have := Nat.div_le_div_right (c := 32768 ^ k) h1
      omega
theorem less_same (a b k : Nat) (h : a / 32768 ^ (k + 1) = b / 32768 ^ (k + 1)) (he : a / 32768 ^ k % 32768 = b / 32768 ^ k % 32768) : a / 32768 ^ k = b / 32768 ^ k := by
  rw [div_next a k, div_next b k, h, he]
theorem less_short (a b : Nat) (h : (dg a).length < (dg b).length) : a < b := by
  have h1 := dg_lt a
  have h2 := dg_top b (by omega)
  have h3 : 32768 ^ (dg a).length ≤ 32768 ^ ((dg b).length - 1) := Nat.pow_le_pow_right (by omega) (by omega)
  omega

/-- The lowest digits of the quotient by digits from the top. -/
theorem div_round (a b k : Nat) (hb : 0 < b) : a / 32768 ^ k % b = (a / 32768 ^ k % 32768 + 32768 * (a / 32768 ^ (k + 1) % b)) % b := by
  conv => lhs; rw [div_next a k]
  rw [Nat.add_comm, Nat.add_mod, Nat.mul_mod, ← Nat.mul_mod, Nat.add_mod (a / 32768 ^ k % 32768) (32768 * (a / 32768 ^ (k + 1) % b)), Nat.mul_mod 32768 (a / 32768 ^ (k + 1) % b), Nat.mod_mod, ← Nat.mul_mod]
theorem div_digit (a b k : Nat) (hb : 0 < b) : (a / 32768 ^ k % 32768 + 32768 * (a / 32768 ^ (k + 1) % b)) / b = a / b / 32768 ^ k % 32768 := by
  have hd := div_next a k
  have h1 := Nat.div_add_mod (a / 32768 ^ (k + 1)) b
  have e1 : a / b / 32768 ^ k = a / 32768 ^ k / b := by rw [Nat.div_div_eq_div_mul, Nat.mul_comm, ← Nat.div_div_eq_div_mul]
  rw [e1]
  have hr : a / 32768 ^ (k + 1) % b < b := Nat.mod_lt _ hb
  generalize a / 32768 ^ (k + 1) % b = r at *
  generalize a / 32768 ^ (k + 1) / b = q at *
  have hx : a / 32768 ^ k % 32768 < 32768 := Nat.mod_lt _ (by omega)
  generalize a / 32768 ^ k % 32768 = x at *
  have hA : a / 32768 ^ k = (x + 32768 * r) + b * (32768 * q) := by
    rw [hd, ← h1, Nat.mul_add, ← Nat.mul_assoc 32768 b, Nat.mul_comm 32768 b, Nat.mul_assoc]
    omega
  rw [hA, Nat.add_mul_div_left _ _ hb, Nat.add_mul_mod_self_left]
  symm
  apply Nat.mod_eq_of_lt
  rw [Nat.div_lt_iff_lt_mul hb]
  have : 32768 * r + 32768 ≤ 32768 * b := by omega
  omega
theorem dg_cons (x r : Nat) (hx : x < 32768) : val (x :: dg r) = x + 32768 * r := by rw [val, val_dg]

/-- The lowest 64 bits. -/
theorem low_five (a : Nat) : a % 18446744073709551616 = (a % 32768 ^ 5) % 18446744073709551616 := by
  have : (32768 : Nat) ^ 5 = 18446744073709551616 * 2048 := by decide
  rw [this, Nat.mod_mul_right_mod]
end Go.Proofs.Ytfjcedfjfadfpaa
