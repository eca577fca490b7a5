/-
  Primes, plain: what divides a product, Fermat's little theorem, and a test of Pocklington's kind, by which 2^255 - 19 is a prime.
  The field of 2^255 - 19, plain: sums, products, what makes 1, roots.
-/

namespace Go.Proofs.Ytealegfmmeklcaa
section
set_option linter.unusedVariables false
set_option linter.unusedSimpArgs false

/-- A prime: only 1 and itself divide it. -/
def Pr (p : Nat) : Prop := 2 ≤ p ∧ ∀ m, m ∣ p → m = 1 ∨ m = p

theorem Pr.euclid {p a b : Nat} (hp : Pr p) (h : p ∣ a * b) : p ∣ a ∨ p ∣ b := by
  rcases hp.2 _ (Nat.gcd_dvd_left p a) with h1 | h1
  · exact .inr (Nat.Coprime.dvd_of_dvd_mul_left h1 h)
  · exact .inl (h1 ▸ Nat.gcd_dvd_right p a)

/-- Each number from 2 has a prime that divides it. -/
theorem factor_some (n : Nat) (hn : 2 ≤ n) : ∃ q, Pr q ∧ q ∣ n := by
  induction n using Nat.strongRecOn with
  | ind n ih =>
    by_cases h : ∀ m, m ∣ n → m = 1 ∨ m = n
    · exact ⟨n, ⟨hn, h⟩, Nat.dvd_refl n⟩
    · have h2 : ∃ m, ¬ (m ∣ n → m = 1 ∨ m = n) := Classical.not_forall.1 h
      obtain ⟨m, hm⟩ := h2
      have hd : m ∣ n := Classical.byContradiction fun hc => hm fun h => absurd h hc
      have hne : ¬ (m = 1 ∨ m = n) := fun hc => hm fun _ => hc
      have hle : m ≤ n := Nat.le_of_dvd (by omega) hd
      have h0 : m ≠ 0 := fun e => by subst e; have := Nat.eq_zero_of_zero_dvd hd; omega
      obtain ⟨q, hq, hqm⟩ := ih m (by omega) (by omega)
      exact ⟨q, hq, Nat.dvd_trans hqm hd⟩

/-- How many ways. -/
def Ch : Nat → Nat → Nat
  | _, 0 => 1
  | 0, _ + 1 => 0
  | n + 1, k + 1 => Ch n k + Ch n (k + 1)
theorem Ch_succ (n k : Nat) : Ch (n + 1) (k + 1) = Ch n k + Ch n (k + 1) := rfl
theorem Ch_zero (n : Nat) : Ch n 0 = 1 := by cases n <;> rfl
theorem Ch_over (n k : Nat) (h : n < k) : Ch n k = 0 := by
  induction n generalizing k with
  | zero => cases k with | zero => omega | succ k => rfl
  | succ n ih => cases k with
    | zero => omega
    | succ k => rw [Ch, ih k (by omega), ih (k + 1) (by omega)]
theorem Ch_self (n : Nat) : Ch n n = 1 := by
  induction n with
  | zero => rfl
  | succ n ih => rw [Ch, ih, Ch_over n (n + 1) (by omega)]
theorem Ch_absorb (n k : Nat) : (k + 1) * Ch (n + 1) (k + 1) = (n + 1) * Ch n k := by
  induction n generalizing k with
  | zero =>
    cases k with
    | zero => rfl
    | succ k => rw [Ch_over (0 + 1) (k + 1 + 1) (by omega), Ch_over 0 (k + 1) (by omega)]; rfl
  | succ m ih =>
    rw [Ch, Nat.mul_add, ih k]
    cases k with
    | zero => rw [Ch_zero, Ch_zero]; omega
    | succ j =>
      have h1 := ih j
      have e : (j + 1 + 1) * Ch (m + 1) (j + 1) = Ch (m + 1) (j + 1) + (j + 1) * Ch (m + 1) (j + 1) := by rw [Nat.succ_mul, Nat.add_comm]
      rw [e, h1, Nat.add_assoc, ← Nat.mul_add, ← Ch_succ, Nat.succ_mul (m + 1), Nat.add_comm]
theorem Pr.dvd_Ch {p k : Nat} (hp : Pr p) (h0 : 0 < k) (h1 : k < p) : p ∣ Ch p k := by
  obtain ⟨j, rfl⟩ : ∃ j, k = j + 1 := ⟨k - 1, by omega⟩
  obtain ⟨n, rfl⟩ : ∃ n, p = n + 1 := ⟨p - 1, by omega⟩
  have h : (n + 1) ∣ (j + 1) * Ch (n + 1) (j + 1) := ⟨Ch n j, Ch_absorb n j⟩
  rcases hp.euclid h with h | h
  · have := Nat.le_of_dvd (by omega) h; omega
  · exact h

/-- The sum of the first n. -/
def sumN : Nat → (Nat → Nat) → Nat
  | 0, _ => 0
  | n + 1, f => sumN n f + f n
theorem sumN_congr {n : Nat} {f g : Nat → Nat} (h : ∀ k, k < n → f k = g k) : sumN n f = sumN n g := by
  induction n with
  | zero => rfl
  | succ n ih => rw [sumN, sumN, ih (fun k hk => h k (by omega)), h n (by omega)]
theorem sumN_first (n : Nat) (f : Nat → Nat) : sumN (n + 1) f = f 0 + sumN n (fun k => f (k + 1)) := by
  induction n with
  | zero => simp [sumN]
  | succ n ih => rw [sumN, ih, sumN, Nat.add_assoc]
theorem sumN_add (n : Nat) (f g : Nat → Nat) : sumN n (fun k => f k + g k) = sumN n f + sumN n g := by
  induction n with
  | zero => rfl
  | succ n ih => rw [sumN, ih, sumN, sumN]; omega
theorem sumN_mul (n a : Nat) (f : Nat → Nat) : sumN n (fun k => f k * a) = sumN n f * a := by
  induction n with
  | zero => simp [sumN]
  | succ n ih => rw [sumN, ih, sumN, Nat.add_mul]
theorem sumN_dvd {n p : Nat} {f : Nat → Nat} (h : ∀ k, k < n → p ∣ f k) : p ∣ sumN n f := by
  induction n with
  | zero => exact Nat.dvd_zero p
  | succ n ih => rw [sumN]; exact Nat.dvd_add (ih fun k hk => h k (by omega)) (h n (by omega))
theorem binomial (a n : Nat) : (a + 1) ^ n = sumN (n + 1) (fun k => Ch n k * a ^ k) := by
  induction n with
  | zero => rfl
  | succ n ih =>
    have e1 : sumN (n + 1 + 1) (fun k => Ch (n + 1) k * a ^ k) = 1 + sumN (n + 1) (fun k => Ch n k * a ^ k * a + Ch n (k + 1) * a ^ (k + 1)) := by
      rw [sumN_first]
      congr 1
      exact sumN_congr fun k _ => by rw [Ch, Nat.add_mul, Nat.mul_assoc, ← Nat.pow_succ]
    have e2 : sumN (n + 1) (fun k => Ch n k * a ^ k) = 1 + sumN (n + 1) (fun k => Ch n (k + 1) * a ^ (k + 1)) := by
      conv => lhs; rw [sumN_first]
      rw [sumN, Ch_over n (n + 1) (by omega), Nat.zero_mul, Nat.add_zero, Ch_zero, Nat.pow_zero]
    rw [e1, sumN_add, sumN_mul, Nat.pow_succ, ih, Nat.mul_add, Nat.mul_one]
    omega
theorem Pr.add_pow {p : Nat} (hp : Pr p) (a : Nat) : (a + 1) ^ p % p = (a ^ p + 1) % p := by
  obtain ⟨n, rfl⟩ : ∃ n, p = n + 1 := ⟨p - 1, by have := hp.1; omega⟩
  rw [binomial, sumN, sumN_first, Ch_self, Ch_zero]
  have hd : (n + 1) ∣ sumN n (fun k => Ch (n + 1) (k + 1) * a ^ (k + 1)) := sumN_dvd fun k hk => Nat.dvd_trans (hp.dvd_Ch (by omega) (by omega)) (Nat.dvd_mul_right _ _)
  obtain ⟨c, hc⟩ := hd
  rw [hc, Nat.pow_zero, Nat.mul_one, Nat.one_mul, show 1 + (n + 1) * c + a ^ (n + 1) = (a ^ (n + 1) + 1) + (n + 1) * c by omega, Nat.add_mul_mod_self_left]
/-- Fermat's little theorem. -/
theorem Pr.fermat {p : Nat} (hp : Pr p) (a : Nat) : a ^ p % p = a % p := by
  induction a with
  | zero => rw [Nat.zero_pow (by have := hp.1; omega)]
  | succ a ih => rw [hp.add_pow, Nat.add_mod, ih, ← Nat.add_mod]
theorem mod_dvd {p b c : Nat} (hle : b ≤ c) : b % p = c % p ↔ p ∣ c - b := by
  constructor
  · intro h
    exact Nat.dvd_of_mod_eq_zero (Nat.sub_mod_eq_zero_of_mod_eq h.symm)
  · intro h
    obtain ⟨k, hk⟩ := h
    rw [show c = b + p * k by omega, Nat.add_mul_mod_self_left]
/-- What is the same behind a factor. -/
theorem Pr.cancel {p a b c : Nat} (hp : Pr p) (h0 : ¬ p ∣ a) (h : a * b % p = a * c % p) : b % p = c % p := by
  rcases Nat.le_total b c with hle | hle
  · have h1 : p ∣ a * c - a * b := (mod_dvd (Nat.mul_le_mul_left a hle)).1 h
    rw [← Nat.mul_sub] at h1
    rcases hp.euclid h1 with h2 | h2
    · exact absurd h2 h0
    · exact (mod_dvd hle).2 h2
  · have h1 : p ∣ a * b - a * c := (mod_dvd (Nat.mul_le_mul_left a hle)).1 h.symm
    rw [← Nat.mul_sub] at h1
    rcases hp.euclid h1 with h2 | h2
    · exact absurd h2 h0
    · exact ((mod_dvd hle).2 h2).symm
theorem Pr.fermat' {p a : Nat} (hp : Pr p) (h0 : ¬ p ∣ a) : a ^ (p - 1) % p = 1 := by
  have h1 := hp.fermat a
  obtain ⟨n, rfl⟩ : ∃ n, p = n + 1 := ⟨p - 1, by have := hp.1; omega⟩
  have h2 : a * a ^ n % (n + 1) = a * 1 % (n + 1) := by rw [Nat.mul_comm a, ← Nat.pow_succ, h1, Nat.mul_one]
  have h3 := hp.cancel h0 h2
  rw [Nat.add_sub_cancel, h3, Nat.mod_eq_of_lt (by have := hp.1; omega)]

/-- Two powers that are 1: so is the one to what divides both. -/
theorem pow_gcd {s b : Nat} (hs : 2 ≤ s) (m n : Nat) (hm : b ^ m % s = 1) (hn : b ^ n % s = 1) : b ^ Nat.gcd m n % s = 1 := by
  induction m, n using Nat.gcd.induction with
  | H0 n => rw [Nat.gcd_zero_left]; exact hn
  | H1 m n h0 ih =>
    rw [Nat.gcd_rec]
    refine ih ?_ hm
    have h1 : b ^ n % s = (b ^ m) ^ (n / m) * b ^ (n % m) % s := by rw [← Nat.pow_mul, ← Nat.pow_add, Nat.div_add_mod]
    rw [hn, Nat.mul_mod, Nat.pow_mod, hm, Nat.one_pow, Nat.mod_eq_of_lt (show 1 < s by omega), Nat.one_mul, Nat.mod_mod] at h1
    exact h1.symm
/-- A power of order q: q divides what is one less than the prime. -/
theorem order_dvd {s q b : Nat} (hs : Pr s) (hq : Pr q) (h1 : b ^ q % s = 1) (hne : b % s ≠ 1) : q ∣ s - 1 := by
  have hnd : ¬ s ∣ b := fun h => by
    have h2 : s ∣ b ^ q := by
      obtain ⟨n, rfl⟩ : ∃ n, q = n + 1 := ⟨q - 1, by have := hq.1; omega⟩
      rw [Nat.pow_succ]
      exact Nat.dvd_trans h (Nat.dvd_mul_left _ _)
    rw [Nat.mod_eq_zero_of_dvd h2] at h1
    cases h1
  have hg := pow_gcd hs.1 q (s - 1) h1 (hs.fermat' hnd)
  rcases hq.2 _ (Nat.gcd_dvd_left q (s - 1)) with h | h
  · rw [h, Nat.pow_one] at hg
    exact absurd hg hne
  · exact h ▸ Nat.gcd_dvd_right q (s - 1)
/-- One witness of the test. -/
def Wit (N q a : Nat) : Prop := q ∣ N - 1 ∧ a ^ (N - 1) % N = 1 ∧ Nat.gcd (a ^ ((N - 1) / q) % N + (N - 1)) N = 1
theorem Wit.dvd {N q a s : Nat} (hN2 : 2 ≤ N) (h : Wit N q a) (hq : Pr q) (hs : Pr s) (hsN : s ∣ N) : q ∣ s - 1 := by
  obtain ⟨h1, h2, h3⟩ := h
  have hm : ∀ x, x % N % s = x % s := fun x => Nat.mod_mod_of_dvd x hsN
  refine order_dvd (b := a ^ ((N - 1) / q)) hs hq ?_ ?_
  · rw [← Nat.pow_mul, Nat.div_mul_cancel h1, ← hm, h2, Nat.mod_eq_of_lt hs.1]
  · intro he
    have h4 : s ∣ a ^ ((N - 1) / q) % N + (N - 1) := by
      apply Nat.dvd_of_mod_eq_zero
      rw [Nat.add_mod, hm, he]
      have h5 : (1 + (N - 1)) % s = 0 := by rw [show 1 + (N - 1) = N by omega]; exact Nat.mod_eq_zero_of_dvd hsN
      rw [Nat.add_mod, Nat.mod_eq_of_lt hs.1] at h5
      exact h5
    have h6 : s ∣ 1 := h3 ▸ Nat.dvd_gcd h4 hsN
    have := Nat.le_of_dvd (by omega) h6
    have := hs.1
    omega
/-- The test: two primes that divide N - 1, whose product is above N's root. -/
theorem pock {N q r a b : Nat} (hN : 2 ≤ N) (hq : Pr q) (hr : Pr r) (hqr : q ≠ r) (ha : Wit N q a) (hb : Wit N r b) (hlt : N < (q * r) * (q * r)) : Pr N := by
  have hcop : Nat.Coprime q r := by
    rcases hq.2 _ (Nat.gcd_dvd_left q r) with h | h
    · exact h
    · rcases hr.2 q (h ▸ Nat.gcd_dvd_right q r) with h2 | h2
      · have := hq.1; omega
      · exact absurd h2 hqr
  have hbig : ∀ s, Pr s → s ∣ N → q * r < s := fun s hs hsN => by
    have h1 : q * r ∣ s - 1 := Nat.Coprime.mul_dvd_of_dvd_of_dvd hcop (Wit.dvd hN ha hq hs hsN) (Wit.dvd hN hb hr hs hsN)
    have := Nat.le_of_dvd (by have := hs.1; omega) h1
    have := hs.1
    omega
  refine ⟨hN, fun m hm => ?_⟩
  obtain ⟨c, hc⟩ := hm
  by_cases hm1 : m = 1
  · exact .inl hm1
  by_cases hc1 : c = 1
  · exact .inr (by rw [hc, hc1, Nat.mul_one])
  exfalso
  have hm2 : 2 ≤ m := by
    rcases Nat.lt_or_ge m 2 with h | h
    · have : m = 0 := by omega
      subst this; omega
    · exact h
  have hc2 : 2 ≤ c := by
    rcases Nat.lt_or_ge c 2 with h | h
    · have : c = 0 := by omega
      subst this; omega
    · exact h
  obtain ⟨s, hs, hsm⟩ := factor_some m hm2
  obtain ⟨t, ht, htc⟩ := factor_some c hc2
  have h1 := hbig s hs (Nat.dvd_trans hsm ⟨c, hc⟩)
  have h2 := hbig t ht (Nat.dvd_trans htc ⟨m, by rw [hc, Nat.mul_comm]⟩)
  have h3 : (q * r) * (q * r) ≤ m * c := Nat.mul_le_mul (Nat.le_trans (Nat.le_of_lt h1) (Nat.le_of_dvd (by omega) hsm)) (Nat.le_trans (Nat.le_of_lt h2) (Nat.le_of_dvd (by omega) htc))
  omega

/-- A small prime, by trial. -/
theorem pr_small (n k : Nat) (hn : 2 ≤ n) (hk : n < k * k) (h : (List.range k).all (fun m => decide (m < 2) || decide (n % m ≠ 0) || decide (n ≤ m)) = true) : Pr n := by
  refine ⟨hn, fun m hm => ?_⟩
  have hall : ∀ m, m < k → m ∣ n → m < 2 ∨ n ≤ m := fun m hmk hd => by
    have h1 := List.all_eq_true.1 h m (List.mem_range.2 hmk)
    simp only [Bool.or_eq_true, decide_eq_true_eq] at h1
    rcases h1 with (h1 | h1) | h1
    · exact .inl h1
    · exact absurd (Nat.mod_eq_zero_of_dvd hd) h1
    · exact .inr h1
  obtain ⟨c, hc⟩ := hm
  have hm0 : m ≠ 0 := fun e => by subst e; omega
  have hc0 : c ≠ 0 := fun e => by subst e; omega
  have hle : m ≤ n := Nat.le_of_dvd (by omega) ⟨c, hc⟩
  rcases Nat.lt_or_ge m k with h1 | h1
  · rcases hall m h1 ⟨c, hc⟩ with h2 | h2
    · exact .inl (by omega)
    · exact .inr (by omega)
  · have hck : c < k := by
      rcases Nat.lt_or_ge c k with h2 | h2
      · exact h2
      · have := Nat.mul_le_mul h1 h2; omega
    rcases hall c hck ⟨m, by rw [hc, Nat.mul_comm]⟩ with h2 | h2
    · exact .inr (by rw [hc, show c = 1 by omega, Nat.mul_one])
    · have : c ≤ n := Nat.le_of_dvd (by omega) ⟨m, by rw [hc, Nat.mul_comm]⟩
      have : c = n := by omega
      rw [this] at hc
      left
      have h3 : n * 1 = n * m := by rw [Nat.mul_one, Nat.mul_comm n m]; exact hc
      exact (Nat.eq_of_mul_eq_mul_left (by omega) h3).symm

/-- A power's rest, by squares: what a machine can reckon. f is how many bits at most. -/
def pmod : Nat → Nat → Nat → Nat → Nat
  | 0, _, _, _ => 1
  | f + 1, a, e, m => if e % 2 = 1 then pmod f (a * a % m) (e / 2) m * a % m else pmod f (a * a % m) (e / 2) m
theorem pmod_is (f a e m : Nat) (hm : 2 ≤ m) (he : e < 2 ^ f) : pmod f a e m % m = a ^ e % m := by
  induction f generalizing a e with
  | zero =>
    have : e = 0 := by simpa using he
    subst this
    rfl
  | succ f ih =>
    have h1 := ih (a * a % m) (e / 2) (by rw [Nat.pow_succ] at he; omega)
    have h2 : (a * a % m) ^ (e / 2) % m = a ^ (2 * (e / 2)) % m := by rw [← Nat.pow_mod, ← Nat.pow_two, ← Nat.pow_mul]
    rw [h2] at h1
    rw [pmod]
    split
    · next h => rw [Nat.mod_mod, Nat.mul_mod, h1, ← Nat.mul_mod, ← Nat.pow_succ, show (2 * (e / 2)).succ = e by omega]
    · next h => rw [h1, show 2 * (e / 2) = e by omega]
theorem wit_of (N q a : Nat) (f : Nat) (hN : 2 ≤ N) (h0 : (N - 1) % q = 0) (hf : N - 1 < 2 ^ f) (h1 : pmod f a (N - 1) N % N = 1) (h2 : Nat.gcd (pmod f a ((N - 1) / q) N % N + (N - 1)) N = 1) : Wit N q a := by
  refine ⟨Nat.dvd_of_mod_eq_zero h0, by rw [← pmod_is f a _ N hN hf]; exact h1, ?_⟩
  rw [← pmod_is f a _ N hN (Nat.lt_of_le_of_lt (Nat.div_le_self _ _) hf)]
  exact h2

theorem pr3 : Pr 3 := pr_small 3 2 (by decide) (by decide) (by decide +kernel)
theorem pr127 : Pr 127 := pr_small 127 12 (by decide) (by decide) (by decide +kernel)
theorem pr353 : Pr 353 := pr_small 353 19 (by decide) (by decide) (by decide +kernel)
theorem pr75707 : Pr 75707 := pr_small 75707 276 (by decide) (by decide) (by decide +kernel)
theorem prA : Pr 8574133 := pr_small 8574133 2929 (by decide) (by decide) (by decide +kernel)
theorem prB : Pr 1919519569386763 := pock (a := 2) (b := 2) (by decide) prA pr127 (by decide)
  (wit_of _ _ _ 51 (by decide) (by decide +kernel) (by decide +kernel) (by decide +kernel) (by decide +kernel)) (wit_of _ _ _ 51 (by decide) (by decide +kernel) (by decide +kernel) (by decide +kernel) (by decide +kernel)) (by decide +kernel)
theorem prC : Pr 75445702479781427272750846543864801 := pock (a := 2) (b := 2) (by decide) prB pr75707 (by decide)
  (wit_of _ _ _ 117 (by decide) (by decide +kernel) (by decide +kernel) (by decide +kernel) (by decide +kernel)) (wit_of _ _ _ 117 (by decide) (by decide +kernel) (by decide +kernel) (by decide +kernel) (by decide +kernel)) (by decide +kernel)
theorem prD : Pr 74058212732561358302231226437062788676166966415465897661863160754340907 := pock (a := 2) (b := 2) (by decide) prC pr353 (by decide)
  (wit_of _ _ _ 236 (by decide) (by decide +kernel) (by decide +kernel) (by decide +kernel) (by decide +kernel)) (wit_of _ _ _ 236 (by decide) (by decide +kernel) (by decide +kernel) (by decide +kernel) (by decide +kernel)) (by decide +kernel)
/-- 2^255 - 19. -/
theorem pr_p : Pr 57896044618658097711785492504343953926634992332820282019728792003956564819949 := pock (a := 2) (b := 2) (by decide) prD pr3 (by decide)
  (wit_of _ _ _ 255 (by decide) (by decide +kernel) (by decide +kernel) (by decide +kernel) (by decide +kernel)) (wit_of _ _ _ 255 (by decide) (by decide +kernel) (by decide +kernel) (by decide +kernel) (by decide +kernel)) (by decide +kernel)
end

section
set_option linter.unusedVariables false
set_option linter.unusedSimpArgs false
set_option exponentiation.threshold 600

/-- The prime. -/
def pp : Nat := 57896044618658097711785492504343953926634992332820282019728792003956564819949
theorem pp_def : pp = 57896044618658097711785492504343953926634992332820282019728792003956564819949 := rfl
theorem pp_pr : Pr pp := pr_p
theorem pp_pos : 0 < pp := by decide +kernel
theorem pp_two : 2 ≤ pp := by decide +kernel
/-- A root of -1. -/
def ii : Nat := 19681161376707505956807079304988542015446066515923890162744021073123829784752
theorem ii_sq : ii * ii % pp = pp - 1 := by decide +kernel
theorem ii_lt : ii < pp := by decide +kernel

theorem pp_not_dvd {x : Nat} (h : x < pp) (h0 : x ≠ 0) : ¬ pp ∣ x := fun hd => by
  have := Nat.le_of_dvd (by omega) hd
  omega
/-- What makes 1. -/
theorem inv_one {x : Nat} (h : x < pp) (h0 : x ≠ 0) : x * (x ^ (pp - 2) % pp) % pp = 1 := by
  have h1 := pp_pr.fermat' (pp_not_dvd h h0)
  rw [Nat.mul_mod_mod, Nat.mul_comm, ← Nat.pow_succ]
  rw [show (pp - 2).succ = pp - 1 by decide +kernel]
  exact h1
theorem mod_of_lt {x : Nat} (h : x < pp) : x % pp = x := Nat.mod_eq_of_lt h
/-- A number and what is missing. -/
theorem neg_sq {x : Nat} (h : x < pp) : ((pp - x) % pp) * ((pp - x) % pp) % pp = x * x % pp := by
  rw [Nat.mod_mul_mod, Nat.mul_mod_mod]
  have e : (pp - x) * (pp - x) + 2 * x * pp = x * x + pp * pp := by
    obtain ⟨y, hy⟩ : ∃ y, pp = x + y := ⟨pp - x, by omega⟩
    rw [show pp - x = y by omega, hy]
    grind
  have h1 : ((pp - x) * (pp - x) + 2 * x * pp) % pp = (x * x + pp * pp) % pp := by rw [e]
  rw [Nat.add_mul_mod_self_right, Nat.add_mul_mod_self_right] at h1
  exact h1
/-- Two numbers of one square. -/
theorem sq_two {x y : Nat} (hx : x < pp) (hy : y < pp) (h : x * x % pp = y * y % pp) : x = y ∨ x = (pp - y) % pp := by
  have key : pp ∣ (x + (pp - y)) * (x + y) := by
    apply Nat.dvd_of_mod_eq_zero
    have e : (x + (pp - y)) * (x + y) + y * y = x * x + pp * (x + y) := by
      obtain ⟨z, hz⟩ : ∃ z, pp = y + z := ⟨pp - y, by omega⟩
      rw [show pp - y = z by omega, hz]
      grind
    have h1 : ((x + (pp - y)) * (x + y) + y * y) % pp = x * x % pp := by rw [e, Nat.add_mul_mod_self_left]
    rw [h] at h1
    have h2 : y * y % pp = (0 + y * y) % pp := by rw [Nat.zero_add]
    rw [h2] at h1
    have h3 := (mod_dvd (p := pp) (Nat.le_add_left (0 + y * y) ((x + (pp - y)) * (x + y)))).1 (by rw [← h1]; congr 1; omega)
    have h4 : (x + (pp - y)) * (x + y) + (0 + y * y) - (0 + y * y) = (x + (pp - y)) * (x + y) := by omega
    rw [h4] at h3
    exact Nat.mod_eq_zero_of_dvd h3
  rcases pp_pr.euclid key with hd | hd
  · left
    obtain ⟨c, hc⟩ := hd
    have hc2 : c < 2 := Nat.lt_of_mul_lt_mul_left (a := pp) (by omega)
    have hc1 : c = 0 ∨ c = 1 := by omega
    rcases hc1 with rfl | rfl <;> omega
  · right
    obtain ⟨c, hc⟩ := hd
    have hc2 : c < 2 := Nat.lt_of_mul_lt_mul_left (a := pp) (by omega)
    have hc1 : c = 0 ∨ c = 1 := by omega
    rcases hc1 with rfl | rfl
    · obtain ⟨rfl, rfl⟩ : x = 0 ∧ y = 0 := by omega
      simp
    · have : y ≠ 0 := fun e => by subst e; omega
      rw [Nat.mod_eq_of_lt (by omega)]
      omega
theorem zero_pw (x n : Nat) (hx : x = 0) (h : 0 < n) : x ^ n % pp = 0 := by
  subst hx
  rw [Nat.zero_pow h, Nat.zero_mod]
/-- The power that tells whether a number is a square. -/
def half (x : Nat) : Nat := x ^ ((pp - 1) / 2) % pp
theorem half_zero {x : Nat} (hx : x = 0) : half x = 0 := zero_pw x _ hx (by decide +kernel)
theorem half_sq {r x : Nat} (hr : r < pp) (h : r * r % pp = x) : half x = 0 ∨ half x = 1 := by
  by_cases h0 : r = 0
  · subst h0
    have : x = 0 := by rw [← h]; exact Nat.zero_mod _
    exact .inl (half_zero this)
  · right
    unfold half
    rw [← h, ← Nat.pow_mod, ← Nat.pow_two, ← Nat.pow_mul, show 2 * ((pp - 1) / 2) = pp - 1 by decide +kernel]
    exact pp_pr.fermat' (pp_not_dvd hr h0)
/-- The root as it is looked for. -/
def rt1 (x : Nat) : Nat := x ^ ((pp + 3) / 8) % pp
def rt2 (x : Nat) : Nat := if rt1 x * rt1 x % pp = x then rt1 x else rt1 x * ii % pp
def rt3 (x : Nat) : Nat := if rt2 x % 2 = 1 then (pp - rt2 x) % pp else rt2 x
theorem rt1_lt (x : Nat) : rt1 x < pp := Nat.mod_lt _ pp_pos
theorem rt2_lt (x : Nat) : rt2 x < pp := by
  unfold rt2; split
  · exact rt1_lt x
  · exact Nat.mod_lt _ pp_pos
theorem rt3_lt (x : Nat) : rt3 x < pp := by
  unfold rt3; split
  · exact Nat.mod_lt _ pp_pos
  · exact rt2_lt x
theorem pp_odd : pp % 2 = 1 := by decide +kernel
theorem rt3_even (x : Nat) : rt3 x % 2 = 0 := by
  unfold rt3; split
  · next h =>
    have h1 := rt2_lt x
    have h2 : (pp - rt2 x) % pp = pp - rt2 x := Nat.mod_eq_of_lt (by omega)
    have h3 := pp_odd
    rw [h2]
    omega
  · omega
theorem rt3_sq {x : Nat} (h : rt2 x * rt2 x % pp = x) : rt3 x * rt3 x % pp = x := by
  unfold rt3; split
  · rw [neg_sq (rt2_lt x)]; exact h
  · exact h
/-- Where the power is 1, it is found. -/
theorem rt_found {x : Nat} (hx : x < pp) (h : half x = 0 ∨ half x = 1) : rt2 x * rt2 x % pp = x := by
  by_cases h0 : x = 0
  · have h1 : rt1 x = 0 := zero_pw x _ h0 (by decide +kernel)
    have h2 : rt2 x = 0 := by
      unfold rt2
      rw [h1, Nat.zero_mul, Nat.zero_mod, if_pos h0.symm]
    rw [h2, Nat.zero_mul, Nat.zero_mod, h0]
  · have h1 : half x = 1 := by
      rcases h with h | h
      · exfalso
        have h2 : pp ∣ x ^ ((pp - 1) / 2) := Nat.dvd_of_mod_eq_zero h
        have h3 : ∀ n, pp ∣ x ^ n → pp ∣ x := fun n => by
          induction n with
          | zero => intro hd; rw [Nat.pow_zero] at hd; have := Nat.le_of_dvd (by omega) hd; have := pp_two; omega
          | succ n ih =>
            intro hd
            rw [Nat.pow_succ] at hd
            rcases pp_pr.euclid hd with hd | hd
            · exact ih hd
            · exact hd
        exact pp_not_dvd hx h0 (h3 _ h2)
      · exact h
    have hrr : (rt1 x * rt1 x % pp) * (rt1 x * rt1 x % pp) % pp = x * x % pp := by
      have e1 : rt1 x * rt1 x % pp = x ^ ((pp + 3) / 8 * 2) % pp := by
        unfold rt1
        rw [Nat.mod_mul_mod, Nat.mul_mod_mod, ← Nat.pow_two, ← Nat.pow_mul]
      rw [e1, Nat.mod_mul_mod, Nat.mul_mod_mod, ← Nat.pow_two, ← Nat.pow_mul, show (pp + 3) / 8 * 2 * 2 = (pp - 1) / 2 + 2 by decide +kernel, Nat.pow_add, ← Nat.mod_mul_mod]
      have h2 : x ^ ((pp - 1) / 2) % pp = 1 := h1
      rw [h2, Nat.one_mul, Nat.pow_two]
    rcases sq_two (Nat.mod_lt _ pp_pos) hx hrr with h2 | h2
    · unfold rt2
      rw [if_pos h2]
      exact h2
    · by_cases h3 : rt1 x * rt1 x % pp = x
      · unfold rt2
        rw [if_pos h3]
        exact h3
      · unfold rt2
        rw [if_neg h3, Nat.mod_mul_mod, Nat.mul_mod_mod]
        have e : rt1 x * ii * (rt1 x * ii) = (rt1 x * rt1 x) * (ii * ii) := by grind
        rw [e, Nat.mul_mod, h2, ii_sq, Nat.mod_mul_mod]
        have e2 : (pp - x) * (pp - 1) + pp = x + pp * (pp - x) := by
          obtain ⟨y, hy⟩ : ∃ y, pp = y + 1 := ⟨pp - 1, by have := pp_two; omega⟩
          have : pp - 1 = y := by omega
          rw [this, show pp - x = y + 1 - x by omega, hy]
          obtain ⟨z, hz⟩ : ∃ z, y + 1 = x + z := ⟨y + 1 - x, by omega⟩
          rw [show y + 1 - x = z by omega]
          have : y = x + z - 1 := by omega
          grind
        have h4 : ((pp - x) * (pp - 1) + pp) % pp = (x + pp * (pp - x)) % pp := by rw [e2]
        rw [Nat.add_mod_right, Nat.add_mul_mod_self_left, Nat.mod_eq_of_lt hx] at h4
        exact h4
/-- What the root of a square is. -/
theorem rt_of_sq {x : Nat} (hx : x < pp) : rt2 (x * x % pp) * rt2 (x * x % pp) % pp = x * x % pp ∧ (rt3 (x * x % pp) = x ∨ rt3 (x * x % pp) = (pp - x) % pp) := by
  have h1 : rt2 (x * x % pp) * rt2 (x * x % pp) % pp = x * x % pp := rt_found (Nat.mod_lt _ pp_pos) (half_sq hx rfl)
  exact ⟨h1, sq_two (rt3_lt _) hx (rt3_sq h1)⟩
/-- Where it is found, the power is 0 or 1. -/
theorem rt_iff {x : Nat} (hx : x < pp) : rt2 x * rt2 x % pp = x ↔ half x = 0 ∨ half x = 1 := ⟨fun h => half_sq (rt2_lt x) h, rt_found hx⟩

/-- Sums that are taken back. -/
theorem back_sum {x y z : Nat} (hx : x < pp) (hy : y < pp) (hz : z < pp) : ((((x + y) % pp + (pp - z)) % pp + z) % pp + (pp - y)) % pp = x := by
  simp only [Nat.mod_add_mod]
  rw [show x + y + (pp - z) + z + (pp - y) = x + pp * 2 by omega, Nat.add_mul_mod_self_left, Nat.mod_eq_of_lt hx]
theorem dist_sum (x y z : Nat) : x * ((y + z) % pp) % pp = (x * y % pp + x * z % pp) % pp := by
  rw [Nat.mul_mod_mod, Nat.mul_add, ← Nat.add_mod]
theorem assoc_mul (x y z : Nat) : x * y % pp * z % pp = x * (y * z % pp) % pp := by
  rw [Nat.mod_mul_mod, Nat.mul_mod_mod, Nat.mul_assoc]
theorem neg_sum {x : Nat} (hx : x < pp) : (x + (pp - x) % pp) % pp = 0 := by
  rw [Nat.add_mod_mod, Nat.add_sub_cancel' (Nat.le_of_lt hx), Nat.mod_self]
theorem sub_self' {x : Nat} (hx : x < pp) : (x + (pp - x)) % pp = 0 := by
  rw [Nat.add_sub_cancel' (Nat.le_of_lt hx), Nat.mod_self]
end
end Go.Proofs.Ytealegfmmeklcaa
