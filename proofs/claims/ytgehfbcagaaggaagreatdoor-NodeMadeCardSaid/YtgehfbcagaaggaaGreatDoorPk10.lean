/-
  Texts of this claim in one file: FldP, Fld3, Fld5, Fld7, FldSq, FldNos.
-/
import Derived.Test.YtgehfbcagaaggaaGreatDoorPk29
import Derived.Test.YtgehfbcagaaggaaGreatDoorPk32
import Derived.Test.YtgehfbcagaaggaaGreatDoorPk33
import Derived.Test.YtgehfbcagaaggaaGreatDoorPk48
import Derived.Test.YtgehfbcagaaggaaGreatDoorPk31
import Derived.Test.YtgehfbcagaaggaaGreatDoorPk35
section
namespace Go.Proofs.YtgehfbcagaaggaaGreatDoor
section
set_option linter.unusedVariables false
set_option linter.unusedSimpArgs false
/-- A prime: only 1 and itself divide it. -/
def Pr (p : Nat) : Prop := 2 ≤ p ∧ ∀ m, m ∣ p → m = 1 ∨ m = p
theorem Pr.euclid {p a b : Nat} (hp : Pr p) (h : p ∣ a * b) : p ∣ a ∨ p ∣ b := by
  rcases hp.2 _ (Nat.gcd_dvd_left p a) with h1 | h1
  · exact .inr (Nat.Coprime.dvd_of_dvd_mul_left h1 h)
  · exact .inl (h1 ▸ Nat.gcd_dvd_right p a)
/-- Each number from 2 has a prime that divides it. -/
theorem factor_some (n : Nat) (hn : 2 ≤ n) : ∃ q, Pr q ∧ q ∣ n := by
  induction n using Nat.strongRecOn with
  | ind n ih =>
    by_cases h : ∀ m, m ∣ n → m = 1 ∨ m = n
    · exact ⟨n, ⟨hn, h⟩, Nat.dvd_refl n⟩
    · have h2 : ∃ m, ¬ (m ∣ n → m = 1 ∨ m = n) := Classical.not_forall.1 h
      obtain ⟨m, hm⟩ := h2
      have hd : m ∣ n := Classical.byContradiction fun hc => hm fun h => absurd h hc
      have hne : ¬ (m = 1 ∨ m = n) := fun hc => hm fun _ => hc
      have hle : m ≤ n := Nat.le_of_dvd (by omega) hd
      have h0 : m ≠ 0 := fun e => by subst e; have := Nat.eq_zero_of_zero_dvd hd; omega
      obtain ⟨q, hq, hqm⟩ := ih m (by omega) (by omega)
      exact ⟨q, hq, Nat.dvd_trans hqm hd⟩
/-- How many ways. -/
def Ch : Nat → Nat → Nat
  | _, 0 => 1
  | 0, _ + 1 => 0
  | n + 1, k + 1 => Ch n k + Ch n (k + 1)
theorem Ch_succ (n k : Nat) : Ch (n + 1) (k + 1) = Ch n k + Ch n (k + 1) := rfl
theorem Ch_zero (n : Nat) : Ch n 0 = 1 := by cases n <;> rfl
theorem Ch_over (n k : Nat) (h : n < k) : Ch n k = 0 := by
  induction n generalizing k with
  | zero => cases k with | zero => omega | succ k => rfl
  | succ n ih => cases k with
    | zero => omega
    | succ k => rw [Ch, ih k (by omega), ih (k + 1) (by omega)]
theorem Ch_self (n : Nat) : Ch n n = 1 := by
  induction n with
  | zero => rfl
  | succ n ih => rw [Ch, ih, Ch_over n (n + 1) (by omega)]
theorem Ch_absorb (n k : Nat) : (k + 1) * Ch (n + 1) (k + 1) = (n + 1) * Ch n k := by
  induction n generalizing k with
  | zero =>
    cases k with
    | zero => rfl
    | succ k => rw [Ch_over (0 + 1) (k + 1 + 1) (by omega), Ch_over 0 (k + 1) (by omega)]; rfl
  | succ m ih =>
    rw [Ch, Nat.mul_add, ih k]
    cases k with
    | zero => rw [Ch_zero, Ch_zero]; omega
    | succ j =>
      have h1 := ih j
      have e : (j + 1 + 1) * Ch (m + 1) (j + 1) = Ch (m + 1) (j + 1) + (j + 1) * Ch (m + 1) (j + 1) := by rw [Nat.succ_mul, Nat.add_comm]
      rw [e, h1, Nat.add_assoc, ← Nat.mul_add, ← Ch_succ, Nat.succ_mul (m + 1), Nat.add_comm]
theorem Pr.dvd_Ch {p k : Nat} (hp : Pr p) (h0 : 0 < k) (h1 : k < p) : p ∣ Ch p k := by
  obtain ⟨j, rfl⟩ : ∃ j, k = j + 1 := ⟨k - 1, by omega⟩
  obtain ⟨n, rfl⟩ : ∃ n, p = n + 1 := ⟨p - 1, by omega⟩
  have h : (n + 1) ∣ (j + 1) * Ch (n + 1) (j + 1) := ⟨Ch n j, Ch_absorb n j⟩
  rcases hp.euclid h with h | h
  · have := Nat.le_of_dvd (by omega) h; omega
  · exact h
/-- The sum of the first n. -/
def sumN : Nat → (Nat → Nat) → Nat
  | 0, _ => 0
  | n + 1, f => sumN n f + f n
theorem sumN_congr {n : Nat} {f g : Nat → Nat} (h : ∀ k, k < n → f k = g k) : sumN n f = sumN n g := by
  induction n with
  | zero => rfl
  | succ n ih => rw [sumN, sumN, ih (fun k hk => h k (by omega)), h n (by omega)]
theorem sumN_first (n : Nat) (f : Nat → Nat) : sumN (n + 1) f = f 0 + sumN n (fun k => f (k + 1)) := by
  induction n with
  | zero => simp [sumN]
  | succ n ih => rw [sumN, ih, sumN, Nat.add_assoc]
theorem sumN_add (n : Nat) (f g : Nat → Nat) : sumN n (fun k => f k + g k) = sumN n f + sumN n g := by
  induction n with
  | zero => rfl
  | succ n ih => rw [sumN, ih, sumN, sumN]; omega
theorem sumN_mul (n a : Nat) (f : Nat → Nat) : sumN n (fun k => f k * a) = sumN n f * a := by
  induction n with
  | zero => simp [sumN]
  | succ n ih => rw [sumN, ih, sumN, Nat.add_mul]
theorem sumN_dvd {n p : Nat} {f : Nat → Nat} (h : ∀ k, k < n → p ∣ f k) : p ∣ sumN n f := by
  induction n with
  | zero => exact Nat.dvd_zero p
  | succ n ih => rw [sumN]; exact Nat.dvd_add (ih fun k hk => h k (by omega)) (h n (by omega))
theorem binomial (a n : Nat) : (a + 1) ^ n = sumN (n + 1) (fun k => Ch n k * a ^ k) := by
  induction n with
  | zero => rfl
  | succ n ih =>
    have e1 : sumN (n + 1 + 1) (fun k => Ch (n + 1) k * a ^ k) = 1 + sumN (n + 1) (fun k => Ch n k * a ^ k * a + Ch n (k + 1) * a ^ (k + 1)) := by
      rw [sumN_first]
      congr 1
      exact sumN_congr fun k _ => by rw [Ch, Nat.add_mul, Nat.mul_assoc, ← Nat.pow_succ]
    have e2 : sumN (n + 1) (fun k => Ch n k * a ^ k) = 1 + sumN (n + 1) (fun k => Ch n (k + 1) * a ^ (k + 1)) := by
      conv => lhs; rw [sumN_first]
      rw [sumN, Ch_over n (n + 1) (by omega), Nat.zero_mul, Nat.add_zero, Ch_zero, Nat.pow_zero]
    rw [e1, sumN_add, sumN_mul, Nat.pow_succ, ih, Nat.mul_add, Nat.mul_one]
    omega
theorem Pr.add_pow {p : Nat} (hp : Pr p) (a : Nat) : (a + 1) ^ p % p = (a ^ p + 1) % p := by
  obtain ⟨n, rfl⟩ : ∃ n, p = n + 1 := ⟨p - 1, by have := hp.1; omega⟩
  rw [binomial, sumN, sumN_first, Ch_self, Ch_zero]
  have hd : (n + 1) ∣ sumN n (fun k => Ch (n + 1) (k + 1) * a ^ (k + 1)) := sumN_dvd fun k hk => Nat.dvd_trans (hp.dvd_Ch (by omega) (by omega)) (Nat.dvd_mul_right _ _)
  obtain ⟨c, hc⟩ := hd
  rw [hc, Nat.pow_zero, Nat.mul_one, Nat.one_mul, show 1 + (n + 1) * c + a ^ (n + 1) = (a ^ (n + 1) + 1) + (n + 1) * c by omega, Nat.add_mul_mod_self_left]
/-- Fermat's little theorem. -/
theorem Pr.fermat {p : Nat} (hp : Pr p) (a : Nat) : a ^ p % p = a % p := by
  induction a with
  | zero => rw [Nat.zero_pow (by have := hp.1; omega)]
  | succ a ih => rw [hp.add_pow, Nat.add_mod, ih, ← Nat.add_mod]
theorem mod_dvd {p b c : Nat} (hle : b ≤ c) : b % p = c % p ↔ p ∣ c - b := by
  constructor
  · intro h
    exact Nat.dvd_of_mod_eq_zero (Nat.sub_mod_eq_zero_of_mod_eq h.symm)
  · intro h
    obtain ⟨k, hk⟩ := h
    rw [show c = b + p * k by omega, Nat.add_mul_mod_self_left]
/-- What is the same behind a factor. -/
theorem Pr.cancel {p a b c : Nat} (hp : Pr p) (h0 : ¬ p ∣ a) (h : a * b % p = a * c % p) : b % p = c % p := by
  rcases Nat.le_total b c with hle | hle
  · have h1 : p ∣ a * c - a * b := (mod_dvd (Nat.mul_le_mul_left a hle)).1 h
    rw [← Nat.mul_sub] at h1
    rcases hp.euclid h1 with h2 | h2
    · exact absurd h2 h0
    · exact (mod_dvd hle).2 h2
  · have h1 : p ∣ a * b - a * c := (mod_dvd (Nat.mul_le_mul_left a hle)).1 h.symm
    rw [← Nat.mul_sub] at h1
    rcases hp.euclid h1 with h2 | h2
    · exact absurd h2 h0
    · exact ((mod_dvd hle).2 h2).symm
theorem Pr.fermat' {p a : Nat} (hp : Pr p) (h0 : ¬ p ∣ a) : a ^ (p - 1) % p = 1 := by
  have h1 := hp.fermat a
  obtain ⟨n, rfl⟩ : ∃ n, p = n + 1 := ⟨p - 1, by have := hp.1; omega⟩
  have h2 : a * a ^ n % (n + 1) = a * 1 % (n + 1) := by rw [Nat.mul_comm a, ← Nat.pow_succ, h1, Nat.mul_one]
  have h3 := hp.cancel h0 h2
  rw [Nat.add_sub_cancel, h3, Nat.mod_eq_of_lt (by have := hp.1; omega)]
/-- Two powers that are 1: so is the one to what divides both. -/
theorem pow_gcd {s b : Nat} (hs : 2 ≤ s) (m n : Nat) (hm : b ^ m % s = 1) (hn : b ^ n % s = 1) : b ^ Nat.gcd m n % s = 1 := by
  induction m, n using Nat.gcd.induction with
  | H0 n => rw [Nat.gcd_zero_left]; exact hn
  | H1 m n h0 ih =>
    rw [Nat.gcd_rec]
    refine ih ?_ hm
    have h1 : b ^ n % s = (b ^ m) ^ (n / m) * b ^ (n % m) % s := by rw [← Nat.pow_mul, ← Nat.pow_add, Nat.div_add_mod]
    rw [hn, Nat.mul_mod, Nat.pow_mod, hm, Nat.one_pow, Nat.mod_eq_of_lt (show 1 < s by omega), Nat.one_mul, Nat.mod_mod] at h1
    exact h1.symm
/-- A power of order q: q divides what is one less than the prime. -/
theorem order_dvd {s q b : Nat} (hs : Pr s) (hq : Pr q) (h1 : b ^ q % s = 1) (hne : b % s ≠ 1) : q ∣ s - 1 := by
  have hnd : ¬ s ∣ b := fun h => by
    have h2 : s ∣ b ^ q := by
      obtain ⟨n, rfl⟩ : ∃ n, q = n + 1 := ⟨q - 1, by have := hq.1; omega⟩
      rw [Nat.pow_succ]
      exact Nat.dvd_trans h (Nat.dvd_mul_left _ _)
    rw [Nat.mod_eq_zero_of_dvd h2] at h1
    cases h1
  have hg := pow_gcd hs.1 q (s - 1) h1 (hs.fermat' hnd)
  rcases hq.2 _ (Nat.gcd_dvd_left q (s - 1)) with h | h
  · rw [h, Nat.pow_one] at hg
    exact absurd hg hne
  · exact h ▸ Nat.gcd_dvd_right q (s - 1)
/-- One witness of the test. -/
def Wit (N q a : Nat) : Prop := q ∣ N - 1 ∧ a ^ (N - 1) % N = 1 ∧ Nat.gcd (a ^ ((N - 1) / q) % N + (N - 1)) N = 1
theorem Wit.dvd {N q a s : Nat} (hN2 : 2 ≤ N) (h : Wit N q a) (hq : Pr q) (hs : Pr s) (hsN : s ∣ N) : q ∣ s - 1 := by
  obtain ⟨h1, h2, h3⟩ := h
  have hm : ∀ x, x % N % s = x % s := fun x => Nat.mod_mod_of_dvd x hsN
  refine order_dvd (b := a ^ ((N - 1) / q)) hs hq ?_ ?_
  · rw [← Nat.pow_mul, Nat.div_mul_cancel h1, ← hm, h2, Nat.mod_eq_of_lt hs.1]
  · intro he
    have h4 : s ∣ a ^ ((N - 1) / q) % N + (N - 1) := by
      apply Nat.dvd_of_mod_eq_zero
      rw [Nat.add_mod, hm, he]
      have h5 : (1 + (N - 1)) % s = 0 := by rw [show 1 + (N - 1) = N by omega]; exact Nat.mod_eq_zero_of_dvd hsN
      rw [Nat.add_mod, Nat.mod_eq_of_lt hs.1] at h5
      exact h5
    have h6 : s ∣ 1 := h3 ▸ Nat.dvd_gcd h4 hsN
    have := Nat.le_of_dvd (by omega) h6
    have := hs.1
    omega
/-- The test: two primes that divide N - 1, whose product is above N's root. -/
theorem pock {N q r a b : Nat} (hN : 2 ≤ N) (hq : Pr q) (hr : Pr r) (hqr : q ≠ r) (ha : Wit N q a) (hb : Wit N r b) (hlt : N < (q * r) * (q * r)) : Pr N := by
  have hcop : Nat.Coprime q r := by
    rcases hq.2 _ (Nat.gcd_dvd_left q r) with h | h
    · exact h
    · rcases hr.2 q (h ▸ Nat.gcd_dvd_right q r) with h2 | h2
      · have := hq.1; omega
      · exact absurd h2 hqr
  have hbig : ∀ s, Pr s → s ∣ N → q * r < s := fun s hs hsN => by
    have h1 : q * r ∣ s - 1 := Nat.Coprime.mul_dvd_of_dvd_of_dvd hcop (Wit.dvd hN ha hq hs hsN) (Wit.dvd hN hb hr hs hsN)
    have := Nat.le_of_dvd (by have := hs.1; omega) h1
    have := hs.1
    omega
  refine ⟨hN, fun m hm => ?_⟩
  obtain ⟨c, hc⟩ := hm
  by_cases hm1 : m = 1
  · exact .inl hm1
  by_cases hc1 : c = 1
  · exact .inr (by rw [hc, hc1, Nat.mul_one])
  exfalso
  have hm2 : 2 ≤ m := by
    rcases Nat.lt_or_ge m 2 with h | h
    · have : m = 0 := by omega
      subst this; omega
    · exact h
  have hc2 : 2 ≤ c := by
    rcases Nat.lt_or_ge c 2 with h | h
    · have : c = 0 := by omega
      subst this; omega
    · exact h
  obtain ⟨s, hs, hsm⟩ := factor_some m hm2
  obtain ⟨t, ht, htc⟩ := factor_some c hc2
  have h1 := hbig s hs (Nat.dvd_trans hsm ⟨c, hc⟩)
  have h2 := hbig t ht (Nat.dvd_trans htc ⟨m, by rw [hc, Nat.mul_comm]⟩)
  have h3 : (q * r) * (q * r) ≤ m * c := Nat.mul_le_mul (Nat.le_trans (Nat.le_of_lt h1) (Nat.le_of_dvd (by omega) hsm)) (Nat.le_trans (Nat.le_of_lt h2) (Nat.le_of_dvd (by omega) htc))
  omega
/-- A small prime, by trial. -/
theorem pr_small (n k : Nat) (hn : 2 ≤ n) (hk : n < k * k) (h : (List.range k).all (fun m => decide (m < 2) || decide (n % m ≠ 0) || decide (n ≤ m)) = true) : Pr n := by
  refine ⟨hn, fun m hm => ?_⟩
  have hall : ∀ m, m < k → m ∣ n → m < 2 ∨ n ≤ m := fun m hmk hd => by
    have h1 := List.all_eq_true.1 h m (List.mem_range.2 hmk)
    simp only [Bool.or_eq_true, decide_eq_true_eq] at h1
    rcases h1 with (h1 | h1) | h1
    · exact .inl h1
    · exact absurd (Nat.mod_eq_zero_of_dvd hd) h1
    · exact .inr h1
  obtain ⟨c, hc⟩ := hm
  have hm0 : m ≠ 0 := fun e => by subst e; omega
  have hc0 : c ≠ 0 := fun e => by subst e; omega
  have hle : m ≤ n := Nat.le_of_dvd (by omega) ⟨c, hc⟩
  rcases Nat.lt_or_ge m k with h1 | h1
  · rcases hall m h1 ⟨c, hc⟩ with h2 | h2
    · exact .inl (by omega)
    · exact .inr (by omega)
  · have hck : c < k := by
      rcases Nat.lt_or_ge c k with h2 | h2
      · exact h2
      · have := Nat.mul_le_mul h1 h2; omega
    rcases hall c hck ⟨m, by rw [hc, Nat.mul_comm]⟩ with h2 | h2
    · exact .inr (by rw [hc, show c = 1 by omega, Nat.mul_one])
    · have : c ≤ n := Nat.le_of_dvd (by omega) ⟨m, by rw [hc, Nat.mul_comm]⟩
      have : c = n := by omega
      rw [this] at hc
      left
      have h3 : n * 1 = n * m := by rw [Nat.mul_one, Nat.mul_comm n m]; exact hc
      exact (Nat.eq_of_mul_eq_mul_left (by omega) h3).symm
/-- A power's rest, by squares: what a machine can reckon. f is how many bits at most. -/
def pmod : Nat → Nat → Nat → Nat → Nat
  | 0, _, _, _ => 1
  | f + 1, a, e, m => if e % 2 = 1 then pmod f (a * a % m) (e / 2) m * a % m else pmod f (a * a % m) (e / 2) m
theorem pmod_is (f a e m : Nat) (hm : 2 ≤ m) (he : e < 2 ^ f) : pmod f a e m % m = a ^ e % m := by
  induction f generalizing a e with
  | zero =>
    have : e = 0 := by simpa using he
    subst this
    rfl
  | succ f ih =>
    have h1 := ih (a * a % m) (e / 2) (by rw [Nat.pow_succ] at he; omega)
    have h2 : (a * a % m) ^ (e / 2) % m = a ^ (2 * (e / 2)) % m := by rw [← Nat.pow_mod, ← Nat.pow_two, ← Nat.pow_mul]
    rw [h2] at h1
    rw [pmod]
    split
    · next h => rw [Nat.mod_mod, Nat.mul_mod, h1, ← Nat.mul_mod, ← Nat.pow_succ, show (2 * (e / 2)).succ = e by omega]
    · next h => rw [h1, show 2 * (e / 2) = e by omega]
theorem wit_of (N q a : Nat) (f : Nat) (hN : 2 ≤ N) (h0 : (N - 1) % q = 0) (hf : N - 1 < 2 ^ f) (h1 : pmod f a (N - 1) N % N = 1) (h2 : Nat.gcd (pmod f a ((N - 1) / q) N % N + (N - 1)) N = 1) : Wit N q a := by
  refine ⟨Nat.dvd_of_mod_eq_zero h0, by rw [← pmod_is f a _ N hN hf]; exact h1, ?_⟩
  rw [← pmod_is f a _ N hN (Nat.lt_of_le_of_lt (Nat.div_le_self _ _) hf)]
  exact h2
theorem pr3 : Pr 3 := pr_small 3 2 (by decide) (by decide) (by decide +kernel)
theorem pr127 : Pr 127 := pr_small 127 12 (by decide) (by decide) (by decide +kernel)
theorem pr353 : Pr 353 := pr_small 353 19 (by decide) (by decide) (by decide +kernel)
theorem pr75707 : Pr 75707 := pr_small 75707 276 (by decide) (by decide) (by decide +kernel)
theorem prA : Pr 8574133 := pr_small 8574133 2929 (by decide) (by decide) (by decide +kernel)
theorem prB : Pr 1919519569386763 := pock (a := 2) (b := 2) (by decide) prA pr127 (by decide)
  (wit_of _ _ _ 51 (by decide) (by decide +kernel) (by decide +kernel) (by decide +kernel) (by decide +kernel)) (wit_of _ _ _ 51 (by decide) (by decide +kernel) (by decide +kernel) (by decide +kernel) (by decide +kernel)) (by decide +kernel)
theorem prC : Pr 75445702479781427272750846543864801 := pock (a := 2) (b := 2) (by decide) prB pr75707 (by decide)
  (wit_of _ _ _ 117 (by decide) (by decide +kernel) (by decide +kernel) (by decide +kernel) (by decide +kernel)) (wit_of _ _ _ 117 (by decide) (by decide +kernel) (by decide +kernel) (by decide +kernel) (by decide +kernel)) (by decide +kernel)
theorem prD : Pr 74058212732561358302231226437062788676166966415465897661863160754340907 := pock (a := 2) (b := 2) (by decide) prC pr353 (by decide)
  (wit_of _ _ _ 236 (by decide) (by decide +kernel) (by decide +kernel) (by decide +kernel) (by decide +kernel)) (wit_of _ _ _ 236 (by decide) (by decide +kernel) (by decide +kernel) (by decide +kernel) (by decide +kernel)) (by decide +kernel)
/-- 2^255 - 19. -/
theorem pr_p : Pr 57896044618658097711785492504343953926634992332820282019728792003956564819949 := pock (a := 2) (b := 2) (by decide) prD pr3 (by decide)
  (wit_of _ _ _ 255 (by decide) (by decide +kernel) (by decide +kernel) (by decide +kernel) (by decide +kernel)) (wit_of _ _ _ 255 (by decide) (by decide +kernel) (by decide +kernel) (by decide +kernel) (by decide +kernel)) (by decide +kernel)
end
section
set_option linter.unusedVariables false
set_option linter.unusedSimpArgs false
set_option exponentiation.threshold 600
/-- The prime. -/
def pp : Nat := 57896044618658097711785492504343953926634992332820282019728792003956564819949
theorem pp_def : pp = 57896044618658097711785492504343953926634992332820282019728792003956564819949 := rfl
theorem pp_pr : Pr pp := pr_p
theorem pp_pos : 0 < pp := by decide +kernel
theorem pp_two : 2 ≤ pp := by decide +kernel
/-- A root of -1. -/
def ii : Nat := 19681161376707505956807079304988542015446066515923890162744021073123829784752
theorem ii_sq : ii * ii % pp = pp - 1 := by decide +kernel
theorem ii_lt : ii < pp := by decide +kernel
theorem pp_not_dvd {x : Nat} (h : x < pp) (h0 : x ≠ 0) : ¬ pp ∣ x := fun hd => by
  have := Nat.le_of_dvd (by omega) hd
  omega
/-- What makes 1. -/
theorem inv_one {x : Nat} (h : x < pp) (h0 : x ≠ 0) : x * (x ^ (pp - 2) % pp) % pp = 1 := by
  have h1 := pp_pr.fermat' (pp_not_dvd h h0)
  rw [Nat.mul_mod_mod, Nat.mul_comm, ← Nat.pow_succ]
  rw [show (pp - 2).succ = pp - 1 by decide +kernel]
  exact h1
/-- A number and what is missing. -/
theorem neg_sq {x : Nat} (h : x < pp) : ((pp - x) % pp) * ((pp - x) % pp) % pp = x * x % pp := by
  rw [Nat.mod_mul_mod, Nat.mul_mod_mod]
  have e : (pp - x) * (pp - x) + 2 * x * pp = x * x + pp * pp := by
    obtain ⟨y, hy⟩ : ∃ y, pp = x + y := ⟨pp - x, by omega⟩
    rw [show pp - x = y by omega, hy]
    grind
  have h1 : ((pp - x) * (pp - x) + 2 * x * pp) % pp = (x * x + pp * pp) % pp := by rw [e]
  rw [Nat.add_mul_mod_self_right, Nat.add_mul_mod_self_right] at h1
  exact h1
/-- Two numbers of one square. -/
theorem sq_two {x y : Nat} (hx : x < pp) (hy : y < pp) (h : x * x % pp = y * y % pp) : x = y ∨ x = (pp - y) % pp := by
  have key : pp ∣ (x + (pp - y)) * (x + y) := by
    apply Nat.dvd_of_mod_eq_zero
    have e : (x + (pp - y)) * (x + y) + y * y = x * x + pp * (x + y) := by
      obtain ⟨z, hz⟩ : ∃ z, pp = y + z := ⟨pp - y, by omega⟩
      rw [show pp - y = z by omega, hz]
      grind
    have h1 : ((x + (pp - y)) * (x + y) + y * y) % pp = x * x % pp := by rw [e, Nat.add_mul_mod_self_left]
    rw [h] at h1
    have h2 : y * y % pp = (0 + y * y) % pp := by rw [Nat.zero_add]
    rw [h2] at h1
    have h3 := (mod_dvd (p := pp) (Nat.le_add_left (0 + y * y) ((x + (pp - y)) * (x + y)))).1 (by rw [← h1]; congr 1; omega)
    have h4 : (x + (pp - y)) * (x + y) + (0 + y * y) - (0 + y * y) = (x + (pp - y)) * (x + y) := by omega
    rw [h4] at h3
    exact Nat.mod_eq_zero_of_dvd h3
  rcases pp_pr.euclid key with hd | hd
  · left
    obtain ⟨c, hc⟩ := hd
    have hc2 : c < 2 := Nat.lt_of_mul_lt_mul_left (a := pp) (by omega)
    have hc1 : c = 0 ∨ c = 1 := by omega
    rcases hc1 with rfl | rfl <;> omega
  · right
    obtain ⟨c, hc⟩ := hd
    have hc2 : c < 2 := Nat.lt_of_mul_lt_mul_left (a := pp) (by omega)
    have hc1 : c = 0 ∨ c = 1 := by omega
    rcases hc1 with rfl | rfl
    · obtain ⟨rfl, rfl⟩ : x = 0 ∧ y = 0 := by omega
      simp
    · have : y ≠ 0 := fun e => by subst e; omega
      rw [Nat.mod_eq_of_lt (by omega)]
      omega
theorem zero_pw (x n : Nat) (hx : x = 0) (h : 0 < n) : x ^ n % pp = 0 := by
  subst hx
  rw [Nat.zero_pow h, Nat.zero_mod]
/-- The power that tells whether a number is a square. -/
def half (x : Nat) : Nat := x ^ ((pp - 1) / 2) % pp
theorem half_zero {x : Nat} (hx : x = 0) : half x = 0 := zero_pw x _ hx (by decide +kernel)
theorem half_sq {r x : Nat} (hr : r < pp) (h : r * r % pp = x) : half x = 0 ∨ half x = 1 := by
  by_cases h0 : r = 0
  · subst h0
    have : x = 0 := by rw [← h]; exact Nat.zero_mod _
    exact .inl (half_zero this)
  · right
    unfold half
    rw [← h, ← Nat.pow_mod, ← Nat.pow_two, ← Nat.pow_mul, show 2 * ((pp - 1) / 2) = pp - 1 by decide +kernel]
    exact pp_pr.fermat' (pp_not_dvd hr h0)
/-- The root as it is looked for. -/
def rt1 (x : Nat) : Nat := x ^ ((pp + 3) / 8) % pp
def rt2 (x : Nat) : Nat := if rt1 x * rt1 x % pp = x then rt1 x else rt1 x * ii % pp
def rt3 (x : Nat) : Nat := if rt2 x % 2 = 1 then (pp - rt2 x) % pp else rt2 x
theorem rt1_lt (x : Nat) : rt1 x < pp := Nat.mod_lt _ pp_pos
theorem rt2_lt (x : Nat) : rt2 x < pp := by
  unfold rt2; split
  · exact rt1_lt x
  · exact Nat.mod_lt _ pp_pos
theorem rt3_lt (x : Nat) : rt3 x < pp := by
  unfold rt3; split
  · exact Nat.mod_lt _ pp_pos
  · exact rt2_lt x
theorem pp_odd : pp % 2 = 1 := by decide +kernel
theorem rt3_even (x : Nat) : rt3 x % 2 = 0 := by
  unfold rt3; split
  · next h =>
    have h1 := rt2_lt x
    have h2 : (pp - rt2 x) % pp = pp - rt2 x := Nat.mod_eq_of_lt (by omega)
    have h3 := pp_odd
    rw [h2]
    omega
  · omega
theorem rt3_sq {x : Nat} (h : rt2 x * rt2 x % pp = x) : rt3 x * rt3 x % pp = x := by
  unfold rt3; split
  · rw [neg_sq (rt2_lt x)]; exact h
  · exact h
/-- Where the power is 1, it is found. -/
theorem rt_found {x : Nat} (hx : x < pp) (h : half x = 0 ∨ half x = 1) : rt2 x * rt2 x % pp = x := by
  by_cases h0 : x = 0
  · have h1 : rt1 x = 0 := zero_pw x _ h0 (by decide +kernel)
    have h2 : rt2 x = 0 := by
      unfold rt2
      rw [h1, Nat.zero_mul, Nat.zero_mod, if_pos h0.symm]
    rw [h2, Nat.zero_mul, Nat.zero_mod, h0]
  · have h1 : half x = 1 := by
      rcases h with h | h
      · exfalso
        have h2 : pp ∣ x ^ ((pp - 1) / 2) := Nat.dvd_of_mod_eq_zero h
        have h3 : ∀ n, pp ∣ x ^ n → pp ∣ x := fun n => by
          induction n with
          | zero => intro hd; rw [Nat.pow_zero] at hd; have := Nat.le_of_dvd (by omega) hd; have := pp_two; omega
          | succ n ih =>
            intro hd
            rw [Nat.pow_succ] at hd
            rcases pp_pr.euclid hd with hd | hd
            · exact ih hd
            · exact hd
        exact pp_not_dvd hx h0 (h3 _ h2)
      · exact h
    have hrr : (rt1 x * rt1 x % pp) * (rt1 x * rt1 x % pp) % pp = x * x % pp := by
      have e1 : rt1 x * rt1 x % pp = x ^ ((pp + 3) / 8 * 2) % pp := by
        unfold rt1
        rw [Nat.mod_mul_mod, Nat.mul_mod_mod, ← Nat.pow_two, ← Nat.pow_mul]
      rw [e1, Nat.mod_mul_mod, Nat.mul_mod_mod, ← Nat.pow_two, ← Nat.pow_mul, show (pp + 3) / 8 * 2 * 2 = (pp - 1) / 2 + 2 by decide +kernel, Nat.pow_add, ← Nat.mod_mul_mod]
      have h2 : x ^ ((pp - 1) / 2) % pp = 1 := h1
      rw [h2, Nat.one_mul, Nat.pow_two]
    rcases sq_two (Nat.mod_lt _ pp_pos) hx hrr with h2 | h2
    · unfold rt2
      rw [if_pos h2]
      exact h2
    · by_cases h3 : rt1 x * rt1 x % pp = x
      · unfold rt2
        rw [if_pos h3]
        exact h3
      · unfold rt2
        rw [if_neg h3, Nat.mod_mul_mod, Nat.mul_mod_mod]
        have e : rt1 x * ii * (rt1 x * ii) = (rt1 x * rt1 x) * (ii * ii) := by grind
        rw [e, Nat.mul_mod, h2, ii_sq, Nat.mod_mul_mod]
        have e2 : (pp - x) * (pp - 1) + pp = x + pp * (pp - x) := by
          obtain ⟨y, hy⟩ : ∃ y, pp = y + 1 := ⟨pp - 1, by have := pp_two; omega⟩
          have : pp - 1 = y := by omega
          rw [this, show pp - x = y + 1 - x by omega, hy]
          obtain ⟨z, hz⟩ : ∃ z, y + 1 = x + z := ⟨y + 1 - x, by omega⟩
          rw [show y + 1 - x = z by omega]
          have : y = x + z - 1 := by omega
          grind
        have h4 : ((pp - x) * (pp - 1) + pp) % pp = (x + pp * (pp - x)) % pp := by rw [e2]
        rw [Nat.add_mod_right, Nat.add_mul_mod_self_left, Nat.mod_eq_of_lt hx] at h4
        exact h4
/-- What the root of a square is. -/
theorem rt_of_sq {x : Nat} (hx : x < pp) : rt2 (x * x % pp) * rt2 (x * x % pp) % pp = x * x % pp ∧ (rt3 (x * x % pp) = x ∨ rt3 (x * x % pp) = (pp - x) % pp) := by
  have h1 : rt2 (x * x % pp) * rt2 (x * x % pp) % pp = x * x % pp := rt_found (Nat.mod_lt _ pp_pos) (half_sq hx rfl)
  exact ⟨h1, sq_two (rt3_lt _) hx (rt3_sq h1)⟩
end
end Go.Proofs.YtgehfbcagaaggaaGreatDoor
end
section
namespace Go.Proofs.YtgehfbcagaaggaaGreatDoor
section
open Go.RowKit
set_option linter.unusedVariables false
set_option linter.unusedSimpArgs false
abbrev ET : TypeId := 80
theorem infoE : (Tryz.prog.info? 80).map (·.size) = some 4 := by kernel_rfl
theorem infoE4 (a b c d : Nat) : (Tryz.prog.info? 80).map (·.size) = some (e4 a b c d).size := infoE
theorem Num_e (n : Nat) (w : World) (hn : n < 18446744073709551616) :
    Calls Tryz.prog 103 #[.int .u64 (n : Int)] w fun e w' => e = .returned (.agg (eA n)) ∧ Below w.heap.size w w' := by
  have h : eA n = e4 n 0 0 0 := by have h := eA_of n 0 0 0 hn (by omega) (by omega) (by omega); simpa using h
  go_enter Tryz.func103, Tryz.ntmps103
  go_wp2
  refine bodyPost_ret (v := .agg (e4 n 0 0 0)) (results_cell_row rfl _ _ w.heap.size ET _ (0, 0) _ rfl (blkN rfl _ _) Tryz.underlying80 rfl infoE) rfl ⟨by rw [h], ?_⟩
  exact (Below.refl _ _).alloc (Nat.le_refl _) _
theorem sum_e (x y : Nat) (w : World) (h : x + y < 115792089237316195423570985008687907853269984665640564039457584007913129639936) :
    Calls Tryz.prog 125 #[.agg (eA x), .agg (eA y)] w fun e w' => e = .returned (.agg (eA (x + y))) ∧ Below w.heap.size w w' := by
  obtain ⟨a, b, c, d, ha, hb, hc, hd, hx, ex⟩ := words x (by omega)
  obtain ⟨a', b', c', d', ha', hb', hc', hd', hy, ey⟩ := words y (by omega)
  rw [ex, ey]
  have h1 := Add64_run a a'
  obtain ⟨s1, hs1⟩ : ∃ s, s = (a + a') % 18446744073709551616 := ⟨_, rfl⟩
  obtain ⟨o1, ho1⟩ : ∃ o, o = (a + a') / 18446744073709551616 := ⟨_, rfl⟩
  rw [← hs1, ← ho1] at h1
  have h2 := Add64_c b b' o1 (by omega)
  obtain ⟨s2, hs2⟩ : ∃ s, s = (b + b' + o1) % 18446744073709551616 := ⟨_, rfl⟩
  obtain ⟨o2, ho2⟩ : ∃ o, o = (b + b' + o1) / 18446744073709551616 := ⟨_, rfl⟩
  rw [← hs2, ← ho2] at h2
  have h3 := Add64_c c c' o2 (by omega)
  obtain ⟨s3, hs3⟩ : ∃ s, s = (c + c' + o2) % 18446744073709551616 := ⟨_, rfl⟩
  obtain ⟨o3, ho3⟩ : ∃ o, o = (c + c' + o2) / 18446744073709551616 := ⟨_, rfl⟩
  rw [← hs3, ← ho3] at h3
  obtain ⟨s4, hs4⟩ : ∃ s, s = d + d' + o3 := ⟨_, rfl⟩
  have hs4l : s4 < 18446744073709551616 := by omega
  have w1 : IntKind.u64.wrap ((d' : Int) + (o3 : Int)) = (d' : Int) + (o3 : Int) := by rw [IntKind.wrap_u64]; omega
  have w2 : IntKind.u64.wrap ((d : Int) + ((d' : Int) + (o3 : Int))) = (s4 : Int) := by rw [IntKind.wrap_u64]; omega
  have hv : x + y = s1 + 18446744073709551616 * s2 + 340282366920938463463374607431768211456 * s3 + 6277101735386680763835789423207666416102355444464034512896 * s4 := by omega
  have he : eA (x + y) = e4 s1 s2 s3 s4 := by rw [hv]; exact eA_of _ _ _ _ (by omega) (by omega) (by omega) hs4l
  have HE := hid he
  clear h hx hy ex ey hs1 ho1 hs2 ho2 hs3 ho3 hs4 hv he ha hb hc hd ha' hb' hc' hd' hs4l
  go_enter Tryz.func125, Tryz.ntmps125
  go_wp2
  refine bodyPost_ret (v := .agg (e4 s1 s2 s3 s4)) (results_cell_row rfl _ _ (w.heap.size + 1 + 1) ET _ (0, 0) _ rfl (blkN (by simp) _ _) Tryz.underlying80 rfl infoE) rfl ⟨by rw [HE.out], ?_⟩
  exact (((Below.refl _ _).alloc (Nat.le_refl _) _).alloc (by simp) _).alloc (by simp; omega) _
theorem missing_e (x : Nat) (w : World) (h : x ≤ pp) :
    Calls Tryz.prog 114 #[.agg (eA x)] w fun e w' => e = .returned (.agg (eA (pp - x))) ∧ Below w.heap.size w w' := by
  rw [pp_def] at *
  obtain ⟨a, b, c, d, ha, hb, hc, hd, hx, ex⟩ := words x (by omega)
  rw [ex]
  have h1 := Sub64_c 18446744073709551597 a 0 (by omega)
  obtain ⟨s1, hs1⟩ : ∃ s, s = (18446744073709551597 + 18446744073709551616 - a - 0) % 18446744073709551616 := ⟨_, rfl⟩
  obtain ⟨o1, ho1⟩ : ∃ o, o = (if 18446744073709551597 < a + 0 then 1 else 0) := ⟨_, rfl⟩
  rw [← hs1, ← ho1] at h1
  have lo1 : o1 ≤ 1 ∧ s1 + a = 18446744073709551597 + 18446744073709551616 * o1 ∧ s1 < 18446744073709551616 := by rw [hs1, ho1]; split <;> omega
  have h2 := Sub64_c 18446744073709551615 b o1 lo1.1
  obtain ⟨s2, hs2⟩ : ∃ s, s = (18446744073709551615 + 18446744073709551616 - b - o1) % 18446744073709551616 := ⟨_, rfl⟩
  obtain ⟨o2, ho2⟩ : ∃ o, o = (if 18446744073709551615 < b + o1 then 1 else 0) := ⟨_, rfl⟩
  rw [← hs2, ← ho2] at h2
  have lo2 : o2 ≤ 1 ∧ s2 + b + o1 = 18446744073709551615 + 18446744073709551616 * o2 ∧ s2 < 18446744073709551616 := by rw [hs2, ho2]; split <;> omega
  have h3 := Sub64_c 18446744073709551615 c o2 lo2.1
  obtain ⟨s3, hs3⟩ : ∃ s, s = (18446744073709551615 + 18446744073709551616 - c - o2) % 18446744073709551616 := ⟨_, rfl⟩
  obtain ⟨o3, ho3⟩ : ∃ o, o = (if 18446744073709551615 < c + o2 then 1 else 0) := ⟨_, rfl⟩
  rw [← hs3, ← ho3] at h3
  have lo3 : o3 ≤ 1 ∧ s3 + c + o2 = 18446744073709551615 + 18446744073709551616 * o3 ∧ s3 < 18446744073709551616 := by rw [hs3, ho3]; split <;> omega
  have h1' : ∀ W : World, (callFunc 124 #[.int .u64 18446744073709551597, .int .u64 (a : Int), .int .u64 0]).run Tryz.prog W = .ok (.value (.tuple #[.int .u64 (s1 : Int), .int .u64 (o1 : Int)])) W := h1
  have h2' : ∀ W : World, (callFunc 124 #[.int .u64 18446744073709551615, .int .u64 (b : Int), .int .u64 (o1 : Int)]).run Tryz.prog W = .ok (.value (.tuple #[.int .u64 (s2 : Int), .int .u64 (o2 : Int)])) W := h2
  have h3' : ∀ W : World, (callFunc 124 #[.int .u64 18446744073709551615, .int .u64 (c : Int), .int .u64 (o2 : Int)]).run Tryz.prog W = .ok (.value (.tuple #[.int .u64 (s3 : Int), .int .u64 (o3 : Int)])) W := h3
  clear h1 h2 h3 hs1 ho1 hs2 ho2 hs3 ho3
  obtain ⟨s4, hs4⟩ : ∃ s, s = 9223372036854775807 - d - o3 := ⟨_, rfl⟩
  have hd4 : d + o3 ≤ 9223372036854775807 := by omega
  have hs4l : s4 < 18446744073709551616 := by omega
  have w1 : IntKind.u64.wrap (9223372036854775807 - (d : Int)) = 9223372036854775807 - (d : Int) := by rw [IntKind.wrap_u64]; omega
  have w2 : IntKind.u64.wrap (9223372036854775807 - (d : Int) - (o3 : Int)) = (s4 : Int) := by rw [IntKind.wrap_u64]; omega
  have hv : 57896044618658097711785492504343953926634992332820282019728792003956564819949 - x = s1 + 18446744073709551616 * s2 + 340282366920938463463374607431768211456 * s3 + 6277101735386680763835789423207666416102355444464034512896 * s4 := by omega
  have he : eA (57896044618658097711785492504343953926634992332820282019728792003956564819949 - x) = e4 s1 s2 s3 s4 := by rw [hv]; exact eA_of _ _ _ _ lo1.2.2 lo2.2.2 lo3.2.2 hs4l
  have HE := hid he
  clear h hx ex lo1 lo2 lo3 hs4 hv he ha hb hc hd hs4l hd4
  go_enter Tryz.func114, Tryz.ntmps114
  go_wp2
  refine bodyPost_ret (v := .agg (e4 s1 s2 s3 s4)) (results_cell_row rfl _ _ (w.heap.size + 1) ET _ (0, 0) _ rfl (blkN (by simp) _ _) Tryz.underlying80 rfl infoE) rfl ⟨by rw [HE.out], ?_⟩
  exact ((Below.refl _ _).alloc (Nat.le_refl _) _).alloc (by simp) _
theorem below_e (x : Nat) (w : World) (h : x < 2 * pp) :
    Calls Tryz.prog 110 #[.agg (eA x)] w fun e w' => e = .returned (.agg (eA (x % pp))) ∧ Below w.heap.size w w' := by
  rw [pp_def] at *
  obtain ⟨a, b, c, d, ha, hb, hc, hd, hx, ex⟩ := words x (by omega)
  obtain ⟨s1, s2, s3, s4, h1, h2, h3, h4, hy, ey⟩ := words (x + 19) (by omega)
  have hsum := fun W => sum_e x 19 W (by omega)
  have e19 : eA 19 = e4 19 0 0 0 := by have h := eA_of 19 0 0 0 (by omega) (by omega) (by omega) (by omega); simpa using h
  rw [ex, ey, e19] at hsum
  rw [ex]
  have HS := hid hsum
  obtain ⟨t4, ht4⟩ : ∃ t, t = s4 % 9223372036854775808 := ⟨_, rfl⟩
  have ht4l : t4 < 18446744073709551616 := by omega
  have b4 : bits .and .u64 (s4 : Int) 9223372036854775807 = (t4 : Int) := by rw [and_top s4 h4, ht4]
  by_cases hlt : x < 57896044618658097711785492504343953926634992332820282019728792003956564819949
  · have hr : eA (x % 57896044618658097711785492504343953926634992332820282019728792003956564819949) = e4 a b c d := by rw [Nat.mod_eq_of_lt hlt, ex]
    have hsh : (s4 : Int) / 9223372036854775808 = 0 := by omega
    have hk : IntKind.u64.wrap (-1) = 18446744073709551615 := by rw [IntKind.wrap_u64]; omega
    have a1 := and_ones a ha; have a2 := and_ones b hb; have a3 := and_ones c hc; have a4 := and_ones d hd
    have n1 := andNot_ones s1 h1; have n2 := andNot_ones s2 h2; have n3 := andNot_ones s3 h3; have n4 := andNot_ones t4 ht4l
    have r1 := or_nought a ha; have r2 := or_nought b hb; have r3 := or_nought c hc; have r4 := or_nought d hd
    have HR := hid hr
    clear h hx ex hy ey hlt hr e19 hsum ht4 ht4l ha hb hc hd h1 h2 h3 h4
    go_enter Tryz.func110, Tryz.ntmps110
    go_wp2_with fail
    refine (HS.out _).mono ?_
    rintro e w1 ⟨rfl, hb1⟩
    have h0 := block_below hb1 (k := w.heap.size) (by simp <;> omega) (blkA (blkN rfl (e4 a b c d) ET) (.cells (e4 0 0 0 0) ET))
    have h9 := block_below hb1 (k := w.heap.size + 1) (by simp <;> omega) (blkN (w := w.alloc (.cells (e4 a b c d) ET)) (by simp) (e4 0 0 0 0) ET)
    have hbb : Below w.heap.size w w1 := (((Below.refl _ _).alloc (Nat.le_refl _) _).alloc (by simp) _).trans (hb1.mono (by simp; omega))
    have hsz : w.heap.size + 2 ≤ w1.heap.size := by have := hb1.size; simpa using this
    have c0 : ∀ o, (w1.alloc o).cell? ⟨w.heap.size, 0, none⟩ = some (.int .u64 (a : Int)) := fun o => cell_of (blkA h0 o) 0 _ rfl
    have c1 : ∀ o, (w1.alloc o).cell? ⟨w.heap.size, 1, none⟩ = some (.int .u64 (b : Int)) := fun o => cell_of (blkA h0 o) 1 _ rfl
    have c2 : ∀ o, (w1.alloc o).cell? ⟨w.heap.size, 2, none⟩ = some (.int .u64 (c : Int)) := fun o => cell_of (blkA h0 o) 2 _ rfl
    have c3 : ∀ o, (w1.alloc o).cell? ⟨w.heap.size, 3, none⟩ = some (.int .u64 (d : Int)) := fun o => cell_of (blkA h0 o) 3 _ rfl
    have HB := hid hbb; have HSZ := hid hsz; have H9 := hid h9; have H0 := hid h0
    clear hb1 hbb hsz h9 h0
    go_wp2_with (with_reducible refine wpList_store_row rfl ET (.tmp 2) _ rfl (w.heap.size + 1) (e4 a b c d) rfl rfl ET (e4 0 0 0 0) (blkA H9.out _) (infoE4 _ _ _ _) (sizeE4 _ _ _ _ _ _ _ _) (e4_one _ _ _ _) ?_)
    refine bodyPost_ret (v := .agg (e4 a b c d)) (results_cell_row rfl _ _ (w.heap.size + 1) ET _ (0, 0) _ rfl (setRow_heap _ _ _ _ _ _ (blkA H9.out _)) Tryz.underlying80 rfl infoE) rfl ⟨by rw [HR.out], ?_⟩
    exact belowRow (HB.out.alloc (by have := HSZ.out; omega) _) (by omega) _
  · have hr : eA (x % 57896044618658097711785492504343953926634992332820282019728792003956564819949) = e4 s1 s2 s3 t4 := by
      rw [← eA_of s1 s2 s3 t4 h1 h2 h3 ht4l]
      congr 1
      omega
    have hsh : (s4 : Int) / 9223372036854775808 = 1 := by omega
    have hk : IntKind.u64.wrap 0 = 0 := by rw [IntKind.wrap_u64]; omega
    have a1 := and_nought a ha; have a2 := and_nought b hb; have a3 := and_nought c hc; have a4 := and_nought d hd
    have n1 := andNot_nought s1 h1; have n2 := andNot_nought s2 h2; have n3 := andNot_nought s3 h3; have n4 := andNot_nought t4 ht4l
    have r1 := nought_or s1 h1; have r2 := nought_or s2 h2; have r3 := nought_or s3 h3; have r4 := nought_or t4 ht4l
    have HR := hid hr
    clear h hx ex hy ey hlt hr e19 hsum ht4 ht4l ha hb hc hd h1 h2 h3 h4
    go_enter Tryz.func110, Tryz.ntmps110
    go_wp2_with fail
    refine (HS.out _).mono ?_
    rintro e w1 ⟨rfl, hb1⟩
    have h0 := block_below hb1 (k := w.heap.size) (by simp <;> omega) (blkA (blkN rfl (e4 a b c d) ET) (.cells (e4 0 0 0 0) ET))
    have h9 := block_below hb1 (k := w.heap.size + 1) (by simp <;> omega) (blkN (w := w.alloc (.cells (e4 a b c d) ET)) (by simp) (e4 0 0 0 0) ET)
    have hbb : Below w.heap.size w w1 := (((Below.refl _ _).alloc (Nat.le_refl _) _).alloc (by simp) _).trans (hb1.mono (by simp; omega))
    have hsz : w.heap.size + 2 ≤ w1.heap.size := by have := hb1.size; simpa using this
    have c0 : ∀ o, (w1.alloc o).cell? ⟨w.heap.size, 0, none⟩ = some (.int .u64 (a : Int)) := fun o => cell_of (blkA h0 o) 0 _ rfl
    have c1 : ∀ o, (w1.alloc o).cell? ⟨w.heap.size, 1, none⟩ = some (.int .u64 (b : Int)) := fun o => cell_of (blkA h0 o) 1 _ rfl
    have c2 : ∀ o, (w1.alloc o).cell? ⟨w.heap.size, 2, none⟩ = some (.int .u64 (c : Int)) := fun o => cell_of (blkA h0 o) 2 _ rfl
    have c3 : ∀ o, (w1.alloc o).cell? ⟨w.heap.size, 3, none⟩ = some (.int .u64 (d : Int)) := fun o => cell_of (blkA h0 o) 3 _ rfl
    have HB := hid hbb; have HSZ := hid hsz; have H9 := hid h9; have H0 := hid h0
    clear hb1 hbb hsz h9 h0
    go_wp2_with (with_reducible refine wpList_store_row rfl ET (.tmp 2) _ rfl (w.heap.size + 1) (e4 s1 s2 s3 t4) rfl rfl ET (e4 0 0 0 0) (blkA H9.out _) (infoE4 _ _ _ _) (sizeE4 _ _ _ _ _ _ _ _) (e4_one _ _ _ _) ?_)
    refine bodyPost_ret (v := .agg (e4 s1 s2 s3 t4)) (results_cell_row rfl _ _ (w.heap.size + 1) ET _ (0, 0) _ rfl (setRow_heap _ _ _ _ _ _ (blkA H9.out _)) Tryz.underlying80 rfl infoE) rfl ⟨by rw [HR.out], ?_⟩
    exact belowRow (HB.out.alloc (by have := HSZ.out; omega) _) (by omega) _
end
section
open Go.RowKit
set_option linter.unusedVariables false
set_option linter.unusedSimpArgs false
/-- A slot and a cell as results. -/
theorem results_tmp_cell {fn : Func} {q p : Tmp} {ty : TypeId} (h : fn.results = #[.tmp q, .cell p ty]) (tmps : Array Value) (w : World) (a : Addr) (u v : Value) {P : Program}
    (hv : tmps.getD q undef = v) (hp : tmps.getD p undef = .pointer (some a)) (hl : (loadVar ty a).run P w = .ok u w) :
    (results fn tmps).run P w = .ok (.tuple #[v, u]) w := by
  have hv' : tmps[q]?.getD undef = v := by rw [← hv]; simp [Array.getD_eq_getD_getElem?]
  have hp' : tmps[p]?.getD undef = .pointer (some a) := by rw [← hp]; simp [Array.getD_eq_getD_getElem?]
  simp [results, h, hv', hp', asAddr, hl]
theorem load_e {w : World} {g : Nat} {a b c d : Nat} {t : TypeId} (h : w.heap[g]? = some (.cells (e4 a b c d) t (0, 0))) : (loadVar ET ⟨g, 0, none⟩).run Tryz.prog w = .ok (.agg (e4 a b c d)) w :=
  run_loadVar_row w g t ET _ (0, 0) _ h Tryz.underlying80 rfl infoE
theorem row_low {p0 p1 p2 p3 l0 l1 l2 l3 h0 h1 h2 h3 n1 n2 n3 k1 k2 k3 : Nat} (e0 : p0 = l0 + 18446744073709551616 * h0) (e1 : p1 = l1 + 18446744073709551616 * h1) (e2 : p2 = l2 + 18446744073709551616 * h2) (e3 : p3 = l3 + 18446744073709551616 * h3)
    (f1 : n1 + 18446744073709551616 * k1 = l1 + h0) (f2 : n2 + 18446744073709551616 * k2 = l2 + h1 + k1) (f3 : n3 + 18446744073709551616 * k3 = l3 + h2 + k2) :
    p0 + 18446744073709551616 * p1 + 340282366920938463463374607431768211456 * p2 + 6277101735386680763835789423207666416102355444464034512896 * p3 = l0 + 18446744073709551616 * n1 + 340282366920938463463374607431768211456 * n2 + 6277101735386680763835789423207666416102355444464034512896 * n3 + 115792089237316195423570985008687907853269984665640564039457584007913129639936 * (h3 + k3) := by
  omega
theorem row_high {z m l0 n1 n2 n3 n4 a' b' c' d' r0 r1 r2 r3 j0 j1 j2 j3 : Nat} (hz : z = l0 + 18446744073709551616 * n1 + 340282366920938463463374607431768211456 * n2 + 6277101735386680763835789423207666416102355444464034512896 * n3 + 115792089237316195423570985008687907853269984665640564039457584007913129639936 * n4)
    (hm : m = a' + 18446744073709551616 * b' + 340282366920938463463374607431768211456 * c' + 6277101735386680763835789423207666416102355444464034512896 * d')
    (i0 : r0 + 18446744073709551616 * j0 = l0 + a') (i1 : r1 + 18446744073709551616 * j1 = n1 + b' + j0) (i2 : r2 + 18446744073709551616 * j2 = n2 + c' + j1) (i3 : r3 + 18446744073709551616 * j3 = n3 + d' + j2) :
    z + m = r0 + 18446744073709551616 * (r1 + 18446744073709551616 * r2 + 340282366920938463463374607431768211456 * r3 + 6277101735386680763835789423207666416102355444464034512896 * (n4 + j3)) := by
  omega
theorem div_mod_sum {p l h : Nat} (hl : l = p % 18446744073709551616) (hh : h = p / 18446744073709551616) : p = l + 18446744073709551616 * h := by omega
theorem carry_sum {r j t : Nat} (hr : r = t % 18446744073709551616) (hj : j = t / 18446744073709551616) : r + 18446744073709551616 * j = t := by omega
theorem carry_le {j a b c : Nat} (hj : j = (a + b + c) / 18446744073709551616) (ha : a < 18446744073709551616) (hb : b < 18446744073709551616) (hc : c ≤ 1) : j ≤ 1 := by omega
theorem carry_le2 {j a b : Nat} (hj : j = (a + b) / 18446744073709551616) (ha : a < 18446744073709551616) (hb : b < 18446744073709551616) : j ≤ 1 := by omega
theorem rest_lt {r t : Nat} (hr : r = t % 18446744073709551616) : r < 18446744073709551616 := by omega
theorem high_lt {h p : Nat} (hh : h = p / 18446744073709551616) (hp : p ≤ 18446744073709551615 * 18446744073709551615) : h < 18446744073709551616 := by omega
theorem wrap_sum {a b c : Nat} (h : c = a + b) (hc : c < 18446744073709551616) : IntKind.u64.wrap ((a : Int) + (b : Int)) = (c : Int) := by rw [IntKind.wrap_u64]; omega
theorem row_lt {z a b c d n : Nat} (h : z = a + 18446744073709551616 * b + 340282366920938463463374607431768211456 * c + 6277101735386680763835789423207666416102355444464034512896 * d + 115792089237316195423570985008687907853269984665640564039457584007913129639936 * n)
    (hle : z ≤ 18446744073709551615 * 115792089237316195423570985008687907853269984665640564039457584007913129639935) : n < 18446744073709551616 := by omega
theorem row_lt2 {z m a b c d n : Nat} (h : z + m = a + 18446744073709551616 * (b + 18446744073709551616 * c + 340282366920938463463374607431768211456 * d + 6277101735386680763835789423207666416102355444464034512896 * n))
    (hle : z ≤ 18446744073709551615 * 115792089237316195423570985008687907853269984665640564039457584007913129639935) (hm : m < 115792089237316195423570985008687907853269984665640564039457584007913129639936) : n < 18446744073709551616 := by omega
theorem row_cut {t r0 q : Nat} (h : t = r0 + 18446744073709551616 * q) (h0 : r0 < 18446744073709551616) : t % 18446744073709551616 = r0 ∧ t / 18446744073709551616 = q := by
  constructor <;> omega
set_option maxHeartbeats 1000000 in
theorem row_e (x y m : Nat) (w : World) (hx : x < 18446744073709551616) (hy : y < 115792089237316195423570985008687907853269984665640564039457584007913129639936) (hm : m < 115792089237316195423570985008687907853269984665640564039457584007913129639936) :
    Calls Tryz.prog 136 #[.int .u64 (x : Int), .agg (eA y), .agg (eA m)] w fun e w' => e = .returned (.tuple #[.int .u64 (((x * y + m) % 18446744073709551616 : Nat) : Int), .agg (eA ((x * y + m) / 18446744073709551616))]) ∧ Below w.heap.size w w' := by
  obtain ⟨a, b, c, d, ha, hb, hc, hd, hya, ey⟩ := words y hy
  obtain ⟨a', b', c', d', ha', hb', hc', hd', hma, em⟩ := words m hm
  have hxy : x * y = x * a + 18446744073709551616 * (x * b) + 340282366920938463463374607431768211456 * (x * c) + 6277101735386680763835789423207666416102355444464034512896 * (x * d) := by
    rw [hya, Nat.mul_add, Nat.mul_add, Nat.mul_add, Nat.mul_left_comm x, Nat.mul_left_comm x, Nat.mul_left_comm x]
  have hle : x * y ≤ 18446744073709551615 * 115792089237316195423570985008687907853269984665640564039457584007913129639935 := Nat.mul_le_mul (by omega) (by omega)
  obtain ⟨z, hz⟩ : ∃ z, z = x * y := ⟨_, rfl⟩
  rw [← hz] at hxy hle ⊢
  rw [ey, em]
  have m0 := Mul64_any x a hx ha
  have m1 := Mul64_any x b hx hb
  have m2 := Mul64_any x c hx hc
  have m3 := Mul64_any x d hx hd
  obtain ⟨p0, hp0⟩ : ∃ p, p = x * a := ⟨_, rfl⟩
  obtain ⟨p1, hp1⟩ : ∃ p, p = x * b := ⟨_, rfl⟩
  obtain ⟨p2, hp2⟩ : ∃ p, p = x * c := ⟨_, rfl⟩
  obtain ⟨p3, hp3⟩ : ∃ p, p = x * d := ⟨_, rfl⟩
  rw [← hp0] at m0 hxy
  rw [← hp1] at m1 hxy
  rw [← hp2] at m2 hxy
  rw [← hp3] at m3 hxy
  have q0 : p0 ≤ 18446744073709551615 * 18446744073709551615 := by rw [hp0]; exact Nat.mul_le_mul (by omega) (by omega)
  have q1 : p1 ≤ 18446744073709551615 * 18446744073709551615 := by rw [hp1]; exact Nat.mul_le_mul (by omega) (by omega)
  have q2 : p2 ≤ 18446744073709551615 * 18446744073709551615 := by rw [hp2]; exact Nat.mul_le_mul (by omega) (by omega)
  have q3 : p3 ≤ 18446744073709551615 * 18446744073709551615 := by rw [hp3]; exact Nat.mul_le_mul (by omega) (by omega)
  clear hp0 hp1 hp2 hp3 hz
  obtain ⟨h0, hh0⟩ : ∃ h, h = p0 / 18446744073709551616 := ⟨_, rfl⟩
  obtain ⟨l0, hl0⟩ : ∃ l, l = p0 % 18446744073709551616 := ⟨_, rfl⟩
  rw [← hh0, ← hl0] at m0
  obtain ⟨h1, hh1⟩ : ∃ h, h = p1 / 18446744073709551616 := ⟨_, rfl⟩
  obtain ⟨l1, hl1⟩ : ∃ l, l = p1 % 18446744073709551616 := ⟨_, rfl⟩
  rw [← hh1, ← hl1] at m1
  obtain ⟨h2, hh2⟩ : ∃ h, h = p2 / 18446744073709551616 := ⟨_, rfl⟩
  obtain ⟨l2, hl2⟩ : ∃ l, l = p2 % 18446744073709551616 := ⟨_, rfl⟩
  rw [← hh2, ← hl2] at m2
  obtain ⟨h3, hh3⟩ : ∃ h, h = p3 / 18446744073709551616 := ⟨_, rfl⟩
  obtain ⟨l3, hl3⟩ : ∃ l, l = p3 % 18446744073709551616 := ⟨_, rfl⟩
  rw [← hh3, ← hl3] at m3
  have hl0l : l0 < 18446744073709551616 := rest_lt hl0
  have hl1l : l1 < 18446744073709551616 := rest_lt hl1
  have hl2l : l2 < 18446744073709551616 := rest_lt hl2
  have hl3l : l3 < 18446744073709551616 := rest_lt hl3
  have e0 : p0 = l0 + 18446744073709551616 * h0 := div_mod_sum hl0 hh0
  have e1 : p1 = l1 + 18446744073709551616 * h1 := div_mod_sum hl1 hh1
  have e2 : p2 = l2 + 18446744073709551616 * h2 := div_mod_sum hl2 hh2
  have e3 : p3 = l3 + 18446744073709551616 * h3 := div_mod_sum hl3 hh3
  have hh0b : h0 < 18446744073709551616 := high_lt hh0 q0
  have hh1b : h1 < 18446744073709551616 := high_lt hh1 q1
  have hh2b : h2 < 18446744073709551616 := high_lt hh2 q2
  clear hh0 hl0 hh1 hl1 hh2 hl2 hh3 hl3 q3 q0 q1 q2
  have A1 := Add64_run l1 h0
  obtain ⟨n1, hn1⟩ : ∃ s, s = (l1 + h0) % 18446744073709551616 := ⟨_, rfl⟩
  obtain ⟨k1, hk1⟩ : ∃ s, s = (l1 + h0) / 18446744073709551616 := ⟨_, rfl⟩
  rw [← hn1, ← hk1] at A1
  have bk1 := carry_le2 hk1 hl1l hh0b
  have A2 := Add64_c l2 h1 k1 bk1
  obtain ⟨n2, hn2⟩ : ∃ s, s = (l2 + h1 + k1) % 18446744073709551616 := ⟨_, rfl⟩
  obtain ⟨k2, hk2⟩ : ∃ s, s = (l2 + h1 + k1) / 18446744073709551616 := ⟨_, rfl⟩
  rw [← hn2, ← hk2] at A2
  have bk2 := carry_le hk2 hl2l hh1b bk1
  have A3 := Add64_c l3 h2 k2 bk2
  obtain ⟨n3, hn3⟩ : ∃ s, s = (l3 + h2 + k2) % 18446744073709551616 := ⟨_, rfl⟩
  obtain ⟨k3, hk3⟩ : ∃ s, s = (l3 + h2 + k2) / 18446744073709551616 := ⟨_, rfl⟩
  rw [← hn3, ← hk3] at A3
  obtain ⟨n4, hn4⟩ : ∃ s, s = h3 + k3 := ⟨_, rfl⟩
  have f1 : n1 + 18446744073709551616 * k1 = l1 + h0 := carry_sum hn1 hk1
  have f2 : n2 + 18446744073709551616 * k2 = l2 + h1 + k1 := carry_sum hn2 hk2
  have f3 : n3 + 18446744073709551616 * k3 = l3 + h2 + k2 := carry_sum hn3 hk3
  have g1 : n1 < 18446744073709551616 ∧ n2 < 18446744073709551616 ∧ n3 < 18446744073709551616 := ⟨rest_lt hn1, rest_lt hn2, rest_lt hn3⟩
  clear hn1 hk1 hn2 hk2 hn3 hk3
  have hz2 := row_low e0 e1 e2 e3 f1 f2 f3
  rw [← hxy, ← hn4] at hz2
  have g4 : n4 < 18446744073709551616 := row_lt hz2 hle
  have w1 : IntKind.u64.wrap ((h3 : Int) + (k3 : Int)) = (n4 : Int) := wrap_sum hn4 g4
  have B0 := Add64_run l0 a'
  obtain ⟨r0, hr0⟩ : ∃ s, s = (l0 + a') % 18446744073709551616 := ⟨_, rfl⟩
  obtain ⟨j0, hj0⟩ : ∃ s, s = (l0 + a') / 18446744073709551616 := ⟨_, rfl⟩
  rw [← hr0, ← hj0] at B0
  have bj0 := carry_le2 hj0 hl0l ha'
  have B1 := Add64_c n1 b' j0 bj0
  obtain ⟨r1, hr1⟩ : ∃ s, s = (n1 + b' + j0) % 18446744073709551616 := ⟨_, rfl⟩
  obtain ⟨j1, hj1⟩ : ∃ s, s = (n1 + b' + j0) / 18446744073709551616 := ⟨_, rfl⟩
  rw [← hr1, ← hj1] at B1
  have bj1 := carry_le hj1 g1.1 hb' bj0
  have B2 := Add64_c n2 c' j1 bj1
  obtain ⟨r2, hr2⟩ : ∃ s, s = (n2 + c' + j1) % 18446744073709551616 := ⟨_, rfl⟩
  obtain ⟨j2, hj2⟩ : ∃ s, s = (n2 + c' + j1) / 18446744073709551616 := ⟨_, rfl⟩
  rw [← hr2, ← hj2] at B2
  have bj2 := carry_le hj2 g1.2.1 hc' bj1
  have B3 := Add64_c n3 d' j2 bj2
  obtain ⟨r3, hr3⟩ : ∃ s, s = (n3 + d' + j2) % 18446744073709551616 := ⟨_, rfl⟩
  obtain ⟨j3, hj3⟩ : ∃ s, s = (n3 + d' + j2) / 18446744073709551616 := ⟨_, rfl⟩
  rw [← hr3, ← hj3] at B3
  obtain ⟨r4, hr4⟩ : ∃ s, s = n4 + j3 := ⟨_, rfl⟩
  have i0 : r0 + 18446744073709551616 * j0 = l0 + a' := carry_sum hr0 hj0
  have i1 : r1 + 18446744073709551616 * j1 = n1 + b' + j0 := carry_sum hr1 hj1
  have i2 : r2 + 18446744073709551616 * j2 = n2 + c' + j1 := carry_sum hr2 hj2
  have i3 : r3 + 18446744073709551616 * j3 = n3 + d' + j2 := carry_sum hr3 hj3
  have i4 : r0 < 18446744073709551616 ∧ r1 < 18446744073709551616 ∧ r2 < 18446744073709551616 ∧ r3 < 18446744073709551616 := ⟨rest_lt hr0, rest_lt hr1, rest_lt hr2, rest_lt hr3⟩
  clear hr0 hj0 hr1 hj1 hr2 hj2 hr3 hj3
  have hz3 := row_high hz2 hma i0 i1 i2 i3
  rw [← hr4] at hz3
  have hr4l : r4 < 18446744073709551616 := row_lt2 hz3 hle hm
  have w2 : IntKind.u64.wrap ((n4 : Int) + (j3 : Int)) = (r4 : Int) := wrap_sum hr4 hr4l
  have hcut := row_cut hz3 i4.1
  have hres : (z + m) % 18446744073709551616 = r0 ∧ eA ((z + m) / 18446744073709551616) = e4 r1 r2 r3 r4 :=
    ⟨hcut.1, by rw [hcut.2]; exact eA_of r1 r2 r3 r4 i4.2.1 i4.2.2.1 i4.2.2.2 hr4l⟩
  clear hcut
  have HR := hid hres
  have M0 := hid m0; have M1 := hid m1; have M2 := hid m2; have M3 := hid m3
  clear m0 m1 m2 m3 hres hx hy hm ha hb hc hd hya ey ha' hb' hc' hd' hma em hxy hle hl0l hl1l hl2l hl3l e0 e1 e2 e3 hh0b hh1b hh2b hn4 f1 f2 f3 g1 bk1 bk2 bj0 bj1 bj2 hz2 g4 hr4 i0 i1 i2 i3 i4 hz3 hr4l
  go_enter Tryz.func136, Tryz.ntmps136
  go_wp2_with fail
  refine (M0.out _).mono ?_
  rintro e wa ⟨rfl, rfl⟩
  go_wp2_with fail
  refine (M1.out _).mono ?_
  rintro e wa ⟨rfl, rfl⟩
  go_wp2_with fail
  refine (M2.out _).mono ?_
  rintro e wa ⟨rfl, rfl⟩
  go_wp2_with fail
  refine (M3.out _).mono ?_
  rintro e wa ⟨rfl, rfl⟩
  go_wp2
  refine bodyPost_ret (v := .tuple #[.int .u64 (r0 : Int), .agg (e4 r1 r2 r3 r4)]) (results_tmp_cell rfl _ _ ⟨w.heap.size + 1 + 1, 0, none⟩ _ _ rfl rfl (load_e (blkN (by simp) _ _))) rfl ⟨by rw [HR.out.1, HR.out.2], ?_⟩
  exact (((Below.refl _ _).alloc (Nat.le_refl _) _).alloc (by simp) _).alloc (by simp; omega) _
end
section
open Go.RowKit
set_option linter.unusedVariables false
set_option linter.unusedSimpArgs false
theorem infoEA (n : Nat) : (Tryz.prog.info? 80).map (·.size) = some (eA n).size := infoE
/-- Four blocks: what came in, and what goes out. -/
def Fr (w wr : World) (X Y L U : Array Value) : Prop :=
  wr.heap[w.heap.size]? = some (.cells X ET (0, 0)) ∧ wr.heap[w.heap.size + 1]? = some (.cells Y ET (0, 0)) ∧ wr.heap[w.heap.size + 1 + 1]? = some (.cells L ET (0, 0)) ∧ wr.heap[w.heap.size + 1 + 1 + 1]? = some (.cells U ET (0, 0)) ∧ Below w.heap.size w wr ∧ w.heap.size + 1 + 1 + 1 < wr.heap.size
theorem Fr.call {w wr w' : World} {X Y L U : Array Value} (h : Fr w wr X Y L U) (hb : Below wr.heap.size wr w') : Fr w w' X Y L U := by
  obtain ⟨h0, h1, h2, h3, h4, h5⟩ := h
  exact ⟨block_below hb (by omega) h0, block_below hb (by omega) h1, block_below hb (by omega) h2, block_below hb (by omega) h3, h4.trans (hb.mono (by omega)), by have := hb.size; omega⟩
theorem Fr.store {w wr : World} {X Y L U : Array Value} (h : Fr w wr X Y L U) (k : Nat) (v : Value) (U' : Array Value) :
    Fr w ((wr.setCell ⟨w.heap.size + 1 + 1, k, none⟩ v).setRow (w.heap.size + 1 + 1 + 1) U') X Y (L.setIfInBounds k v) U' := by
  obtain ⟨h0, h1, h2, h3, h4, h5⟩ := h
  refine ⟨?_, ?_, ?_, ?_, ?_, ?_⟩
  · exact (setRow_other _ _ _ _ (by omega)).trans ((heap_setCell_other _ _ _ _ (by simp <;> omega)).trans h0)
  · exact (setRow_other _ _ _ _ (by omega)).trans ((heap_setCell_other _ _ _ _ (by simp <;> omega)).trans h1)
  · exact (setRow_other _ _ _ _ (by omega)).trans (block_set h2 k v)
  · exact setRow_heap _ _ _ _ _ _ ((heap_setCell_other _ _ _ _ (by simp <;> omega)).trans h3)
  · exact belowRow (h4.setCell (by simp <;> omega) _) (by omega) _
  · rw [size_setRow]; simpa using h5
theorem Fr.start (w : World) (X Y : Array Value) : Fr w ((((w.alloc (.cells X ET)).alloc (.cells Y ET)).alloc (.cells z4 ET)).alloc (.cells z4 ET)) X Y z4 z4 :=
  ⟨blkA (blkA (blkA (blkN rfl X ET) _) _) _, blkA (blkA (blkN (by simp) Y ET) _) _, blkA (blkN (by simp) z4 ET) _, blkN (by simp) z4 ET,
    ((((Below.refl _ _).alloc (Nat.le_refl _) _).alloc (by simp) _).alloc (by simp; omega) _).alloc (by simp; omega) _, by simp⟩
theorem Fr.x {w wr : World} {X Y L U : Array Value} (h : Fr w wr X Y L U) (k : Nat) (v : Value) (hv : X[k]? = some v) : wr.cell? ⟨w.heap.size, k, none⟩ = some v := cell_of h.1 k v hv
theorem Fr.l {w wr : World} {X Y L U : Array Value} (h : Fr w wr X Y L U) (k : Nat) (v : Value) (hv : L[k]? = some v) : wr.cell? ⟨w.heap.size + 1 + 1, k, none⟩ = some v := cell_of h.2.2.1 k v hv
theorem Fr.lf {w wr : World} {X Y L U : Array Value} (h : Fr w wr X Y L U) (k : Nat) : wr.frozen? ⟨w.heap.size + 1 + 1, k, none⟩ = false := frozen_of_row _ _ _ _ _ h.2.2.1
/-- The four steps of a product. -/
theorem product_num {xa xb xc xd y t0 t1 t2 t3 l0 l1 l2 l3 u1 u2 u3 u4 : Nat} (h0 : t0 = l0 + 18446744073709551616 * u1) (h1 : t1 = l1 + 18446744073709551616 * u2) (h2 : t2 = l2 + 18446744073709551616 * u3) (h3 : t3 = l3 + 18446744073709551616 * u4)
    (e0 : t0 = xa * y) (e1 : t1 = xb * y + u1) (e2 : t2 = xc * y + u2) (e3 : t3 = xd * y + u3) :
    (xa + 18446744073709551616 * xb + 340282366920938463463374607431768211456 * xc + 6277101735386680763835789423207666416102355444464034512896 * xd) * y = (l0 + 18446744073709551616 * l1 + 340282366920938463463374607431768211456 * l2 + 6277101735386680763835789423207666416102355444464034512896 * l3) + 115792089237316195423570985008687907853269984665640564039457584007913129639936 * u4 := by
  rw [Nat.add_mul, Nat.add_mul, Nat.add_mul, Nat.mul_assoc, Nat.mul_assoc, Nat.mul_assoc]
  omega
theorem step_lt {t x y u : Nat} (h : t = x * y + u) (hx : x < 18446744073709551616) (hy : y < 115792089237316195423570985008687907853269984665640564039457584007913129639936) (hu : u < 115792089237316195423570985008687907853269984665640564039457584007913129639936) : t / 18446744073709551616 < 115792089237316195423570985008687907853269984665640564039457584007913129639936 := by
  have : x * y ≤ 18446744073709551615 * 115792089237316195423570985008687907853269984665640564039457584007913129639935 := Nat.mul_le_mul (by omega) (by omega)
  omega
theorem product_end {z l u : Nat} (h : z = l + 115792089237316195423570985008687907853269984665640564039457584007913129639936 * u) (hl : l < 115792089237316195423570985008687907853269984665640564039457584007913129639936) :
    z % 115792089237316195423570985008687907853269984665640564039457584007913129639936 = l ∧ z / 115792089237316195423570985008687907853269984665640564039457584007913129639936 = u := by
  constructor <;> omega
theorem four_lt {a b c d : Nat} (ha : a < 18446744073709551616) (hb : b < 18446744073709551616) (hc : c < 18446744073709551616) (hd : d < 18446744073709551616) : a + 18446744073709551616 * b + 340282366920938463463374607431768211456 * c + 6277101735386680763835789423207666416102355444464034512896 * d < 115792089237316195423570985008687907853269984665640564039457584007913129639936 := by omega
set_option maxRecDepth 100000 in
set_option maxHeartbeats 1000000 in
theorem product_e (x y : Nat) (w : World) (hx : x < 115792089237316195423570985008687907853269984665640564039457584007913129639936) (hy : y < 115792089237316195423570985008687907853269984665640564039457584007913129639936) :
    Calls Tryz.prog 129 #[.agg (eA x), .agg (eA y)] w fun e w' => e = .returned (.tuple #[.agg (eA (x * y % 115792089237316195423570985008687907853269984665640564039457584007913129639936)), .agg (eA (x * y / 115792089237316195423570985008687907853269984665640564039457584007913129639936))]) ∧ Below w.heap.size w w' := by
  obtain ⟨xa, xb, xc, xd, ha, hb, hc, hd, hxv, ex⟩ := words x hx
  rw [ex]
  have hr0 := fun W => row_e xa y 0 W ha hy (by omega)
  rw [Nat.add_zero] at hr0
  obtain ⟨t0, ht0⟩ : ∃ t, t = xa * y := ⟨_, rfl⟩
  have lt1 : t0 / 18446744073709551616 < 115792089237316195423570985008687907853269984665640564039457584007913129639936 := step_lt (u := 0) ht0 ha hy (by omega)
  rw [← ht0] at hr0
  obtain ⟨l0, hl0⟩ : ∃ l, l = t0 % 18446744073709551616 := ⟨_, rfl⟩
  obtain ⟨u1, hu1⟩ : ∃ u, u = t0 / 18446744073709551616 := ⟨_, rfl⟩
  rw [← hl0, ← hu1] at hr0
  rw [← hu1] at lt1
  have d0 := div_mod_sum hl0 hu1
  have ll0 := rest_lt hl0
  have R0 := hid hr0
  clear hr0 hl0 hu1
  have hr1 := fun W => row_e xb y u1 W hb hy lt1
  obtain ⟨t1, ht1⟩ : ∃ t, t = xb * y + u1 := ⟨_, rfl⟩
  have lt2 : t1 / 18446744073709551616 < 115792089237316195423570985008687907853269984665640564039457584007913129639936 := step_lt ht1 hb hy lt1
  rw [← ht1] at hr1
  obtain ⟨l1, hl1⟩ : ∃ l, l = t1 % 18446744073709551616 := ⟨_, rfl⟩
  obtain ⟨u2, hu2⟩ : ∃ u, u = t1 / 18446744073709551616 := ⟨_, rfl⟩
  rw [← hl1, ← hu2] at hr1
  rw [← hu2] at lt2
  have d1 := div_mod_sum hl1 hu2
  have ll1 := rest_lt hl1
  have R1 := hid hr1
  clear hr1 hl1 hu2
  have hr2 := fun W => row_e xc y u2 W hc hy lt2
  obtain ⟨t2, ht2⟩ : ∃ t, t = xc * y + u2 := ⟨_, rfl⟩
  have lt3 : t2 / 18446744073709551616 < 115792089237316195423570985008687907853269984665640564039457584007913129639936 := step_lt ht2 hc hy lt2
  rw [← ht2] at hr2
  obtain ⟨l2, hl2⟩ : ∃ l, l = t2 % 18446744073709551616 := ⟨_, rfl⟩
  obtain ⟨u3, hu3⟩ : ∃ u, u = t2 / 18446744073709551616 := ⟨_, rfl⟩
  rw [← hl2, ← hu3] at hr2
  rw [← hu3] at lt3
  have d2 := div_mod_sum hl2 hu3
  have ll2 := rest_lt hl2
  have R2 := hid hr2
  clear hr2 hl2 hu3
  have hr3 := fun W => row_e xd y u3 W hd hy lt3
  obtain ⟨t3, ht3⟩ : ∃ t, t = xd * y + u3 := ⟨_, rfl⟩
  have lt4 : t3 / 18446744073709551616 < 115792089237316195423570985008687907853269984665640564039457584007913129639936 := step_lt ht3 hd hy lt3
  rw [← ht3] at hr3
  obtain ⟨l3, hl3⟩ : ∃ l, l = t3 % 18446744073709551616 := ⟨_, rfl⟩
  obtain ⟨u4, hu4⟩ : ∃ u, u = t3 / 18446744073709551616 := ⟨_, rfl⟩
  rw [← hl3, ← hu4] at hr3
  rw [← hu4] at lt4
  have d3 := div_mod_sum hl3 hu4
  have ll3 := rest_lt hl3
  have R3 := hid hr3
  clear hr3 hl3 hu4
  have hnum := product_num d0 d1 d2 d3 ht0 ht1 ht2 ht3
  rw [← hxv] at hnum
  have hend := product_end hnum (four_lt ll0 ll1 ll2 ll3)
  have hL : eA (x * y % 115792089237316195423570985008687907853269984665640564039457584007913129639936) = e4 l0 l1 l2 l3 := by rw [hend.1]; exact eA_of _ _ _ _ ll0 ll1 ll2 ll3
  have hU : eA (x * y / 115792089237316195423570985008687907853269984665640564039457584007913129639936) = eA u4 := by rw [hend.2]
  have HL := hid hL; have HU := hid hU
  clear hx hy ha hb hc hd hxv ex hnum hend hL hU d0 d1 d2 d3 ll0 ll1 ll2 ll3 lt1 lt2 lt3 lt4 ht0 ht1 ht2 ht3
  have F := hid (Fr.start w (e4 xa xb xc xd) (eA y))
  have c0 := F.out.x 0 (.int .u64 (xa : Int)) rfl
  go_enter Tryz.func129, Tryz.ntmps129
  have Y1 := hid F.out.2.1
  have U1 := hid F.out.2.2.2.1
  go_wp2_with (first | (with_reducible refine wpList_load_row rfl ET (.tmp 3) rfl (w.heap.size + 1) rfl ET (eA y) (0, 0) _ Y1.out Tryz.underlying80 rfl (infoEA y) ?_) | (with_reducible refine wpList_load_row rfl ET (.tmp 5) rfl (w.heap.size + 1 + 1 + 1) rfl ET z4 (0, 0) _ U1.out Tryz.underlying80 rfl (infoE4 0 0 0 0) ?_))
  refine (R0.out _).mono ?_
  rintro e w1 ⟨rfl, hb⟩
  have G := hid (F.out.call hb)
  have cl := G.out.l 0 (.int .u64 0) rfl
  have cf := G.out.lf 0
  have F2 : Hid (Fr w ((w1.setCell ⟨w.heap.size + 1 + 1, 0, none⟩ (.int .u64 (l0 : Int))).setRow (w.heap.size + 1 + 1 + 1) (eA u1)) (e4 xa xb xc xd) (eA y) (e4 l0 0 0 0) (eA u1)) := hid (G.out.store 0 _ _)
  have s3 : Hid ((w1.setCell ⟨w.heap.size + 1 + 1, 0, none⟩ (.int .u64 (l0 : Int))).heap[w.heap.size + 1 + 1 + 1]? = some (.cells z4 ET (0, 0))) := hid ((heap_setCell_other _ _ _ _ (by simp <;> omega)).trans G.out.2.2.2.1)
  clear hb F c0 Y1 U1
  have F := F2
  clear F2
  have c0 := F.out.x 1 (.int .u64 (xb : Int)) rfl
  have Y1 := hid F.out.2.1
  have U1 := hid F.out.2.2.2.1
  go_wp2_with (first | (with_reducible refine wpList_load_row rfl ET (.tmp 3) rfl (w.heap.size + 1) rfl ET (eA y) (0, 0) _ Y1.out Tryz.underlying80 rfl (infoEA y) ?_) | (with_reducible refine wpList_load_row rfl ET (.tmp 5) rfl (w.heap.size + 1 + 1 + 1) rfl ET (eA u1) (0, 0) _ U1.out Tryz.underlying80 rfl (infoEA u1) ?_) | (with_reducible refine wpList_store_row rfl ET (.tmp 5) _ rfl (w.heap.size + 1 + 1 + 1) (eA u1) rfl rfl ET z4 s3.out (infoEA u1) (sizeZA u1) (oneEA u1) ?_))
  refine (R1.out _).mono ?_
  rintro e w2 ⟨rfl, hb⟩
  have G := hid (F.out.call hb)
  have cl := G.out.l 1 (.int .u64 0) rfl
  have cf := G.out.lf 1
  have F2 : Hid (Fr w ((w2.setCell ⟨w.heap.size + 1 + 1, 1, none⟩ (.int .u64 (l1 : Int))).setRow (w.heap.size + 1 + 1 + 1) (eA u2)) (e4 xa xb xc xd) (eA y) (e4 l0 l1 0 0) (eA u2)) := hid (G.out.store 1 _ _)
  have s3 : Hid ((w2.setCell ⟨w.heap.size + 1 + 1, 1, none⟩ (.int .u64 (l1 : Int))).heap[w.heap.size + 1 + 1 + 1]? = some (.cells (eA u1) ET (0, 0))) := hid ((heap_setCell_other _ _ _ _ (by simp <;> omega)).trans G.out.2.2.2.1)
  clear hb F c0 Y1 U1
  have F := F2
  clear F2
  have c0 := F.out.x 2 (.int .u64 (xc : Int)) rfl
  have Y1 := hid F.out.2.1
  have U1 := hid F.out.2.2.2.1
  go_wp2_with (first | (with_reducible refine wpList_load_row rfl ET (.tmp 3) rfl (w.heap.size + 1) rfl ET (eA y) (0, 0) _ Y1.out Tryz.underlying80 rfl (infoEA y) ?_) | (with_reducible refine wpList_load_row rfl ET (.tmp 5) rfl (w.heap.size + 1 + 1 + 1) rfl ET (eA u2) (0, 0) _ U1.out Tryz.underlying80 rfl (infoEA u2) ?_) | (with_reducible refine wpList_store_row rfl ET (.tmp 5) _ rfl (w.heap.size + 1 + 1 + 1) (eA u2) rfl rfl ET (eA u1) s3.out (infoEA u2) (sizeEA u1 u2) (oneEA u2) ?_))
  refine (R2.out _).mono ?_
  rintro e w3 ⟨rfl, hb⟩
  have G := hid (F.out.call hb)
  have cl := G.out.l 2 (.int .u64 0) rfl
  have cf := G.out.lf 2
  have F2 : Hid (Fr w ((w3.setCell ⟨w.heap.size + 1 + 1, 2, none⟩ (.int .u64 (l2 : Int))).setRow (w.heap.size + 1 + 1 + 1) (eA u3)) (e4 xa xb xc xd) (eA y) (e4 l0 l1 l2 0) (eA u3)) := hid (G.out.store 2 _ _)
  have s3 : Hid ((w3.setCell ⟨w.heap.size + 1 + 1, 2, none⟩ (.int .u64 (l2 : Int))).heap[w.heap.size + 1 + 1 + 1]? = some (.cells (eA u2) ET (0, 0))) := hid ((heap_setCell_other _ _ _ _ (by simp <;> omega)).trans G.out.2.2.2.1)
  clear hb F c0 Y1 U1
  have F := F2
  clear F2
  have c0 := F.out.x 3 (.int .u64 (xd : Int)) rfl
  have Y1 := hid F.out.2.1
  have U1 := hid F.out.2.2.2.1
  go_wp2_with (first | (with_reducible refine wpList_load_row rfl ET (.tmp 3) rfl (w.heap.size + 1) rfl ET (eA y) (0, 0) _ Y1.out Tryz.underlying80 rfl (infoEA y) ?_) | (with_reducible refine wpList_load_row rfl ET (.tmp 5) rfl (w.heap.size + 1 + 1 + 1) rfl ET (eA u3) (0, 0) _ U1.out Tryz.underlying80 rfl (infoEA u3) ?_) | (with_reducible refine wpList_store_row rfl ET (.tmp 5) _ rfl (w.heap.size + 1 + 1 + 1) (eA u3) rfl rfl ET (eA u2) s3.out (infoEA u3) (sizeEA u2 u3) (oneEA u3) ?_))
  refine (R3.out _).mono ?_
  rintro e w4 ⟨rfl, hb⟩
  have G := hid (F.out.call hb)
  have cl := G.out.l 3 (.int .u64 0) rfl
  have cf := G.out.lf 3
  have F2 : Hid (Fr w ((w4.setCell ⟨w.heap.size + 1 + 1, 3, none⟩ (.int .u64 (l3 : Int))).setRow (w.heap.size + 1 + 1 + 1) (eA u4)) (e4 xa xb xc xd) (eA y) (e4 l0 l1 l2 l3) (eA u4)) := hid (G.out.store 3 _ _)
  have s3 : Hid ((w4.setCell ⟨w.heap.size + 1 + 1, 3, none⟩ (.int .u64 (l3 : Int))).heap[w.heap.size + 1 + 1 + 1]? = some (.cells (eA u3) ET (0, 0))) := hid ((heap_setCell_other _ _ _ _ (by simp <;> omega)).trans G.out.2.2.2.1)
  clear hb F c0 Y1 U1
  have F := F2
  clear F2
  go_wp2_with ((with_reducible refine wpList_store_row rfl ET (.tmp 5) _ rfl (w.heap.size + 1 + 1 + 1) (eA u4) rfl rfl ET (eA u3) s3.out (infoEA u4) (sizeEA u3 u4) (oneEA u4) ?_))
  have HI1 := hid (infoE4 l0 l1 l2 l3); have HO1 := hid (e4_one l0 l1 l2 l3)
  obtain ⟨H0, H1, H2, H3, HB, HZ⟩ := F.out
  refine wp_region_any (by kernel_rfl) ?_
  try (change wpAny _ _ _ _ _ _ _ (World.drew _))
  refine wpAny_ready (rs := [0, 1]) (by kernel_rfl) (by simp) ?_
  refine AllReady.cons rfl (fun K hK => ?_) (AllReady.cons rfl (fun K hK => ?_) (AllReady.nil))
  · refine step_load_row rfl ET (.tmp 4) rfl (w.heap.size + 1 + 1) rfl ET (e4 l0 l1 l2 l3) (0, 0) _ H2 Tryz.underlying80 rfl (infoE4 l0 l1 l2 l3) ?_
    refine hK _ _ ?_
    clear hK K
    refine wpAny_ready (rs := [1, 2]) (by kernel_rfl) (by simp) ?_
    refine AllReady.cons rfl (fun K hK => ?_) (AllReady.cons rfl (fun K hK => ?_) (AllReady.nil))
    · refine step_load_row rfl ET (.tmp 5) rfl (w.heap.size + 1 + 1 + 1) rfl ET (eA u4) (0, 0) _ H3 Tryz.underlying80 rfl (infoEA u4) ?_
      refine hK _ _ ?_
      clear hK K
      refine wpAny_ready (rs := [2]) (by kernel_rfl) (by simp) ?_
      refine AllReady.cons rfl (fun K hK => ?_) (AllReady.nil)
      refine step_store_same rfl ET (.tmp 4) (.tmp 42) rfl (w.heap.size + 1 + 1) (e4 l0 l1 l2 l3) rfl rfl ET H2 (infoE4 l0 l1 l2 l3) (e4_one l0 l1 l2 l3) ?_
      refine hK _ _ ?_
      clear hK K
      refine wpAny_ready (rs := [3]) (by kernel_rfl) (by simp) ?_
      refine AllReady.cons rfl (fun K hK => ?_) (AllReady.nil)
      refine step_store_same rfl ET (.tmp 5) (.tmp 43) rfl (w.heap.size + 1 + 1 + 1) (eA u4) rfl rfl ET H3 (infoEA u4) (oneEA u4) ?_
      refine hK _ _ ?_
      clear hK K
      refine wpAny_done (by kernel_rfl) ?_ _
      go_wp2
      exact bodyPost_ret (v := .tuple #[.agg (e4 l0 l1 l2 l3), .agg (eA u4)]) (results_two_e rfl _ _ ⟨w.heap.size + 1 + 1, 0, none⟩ ⟨w.heap.size + 1 + 1 + 1, 0, none⟩ _ _ rfl rfl (load_e H2) (run_loadVar_row _ _ ET ET _ (0, 0) _ H3 Tryz.underlying80 rfl (infoEA u4))) rfl ⟨by rw [HL.out, HU.out], HB.drew⟩
    · refine step_store_same rfl ET (.tmp 4) (.tmp 42) rfl (w.heap.size + 1 + 1) (e4 l0 l1 l2 l3) rfl rfl ET H2 (infoE4 l0 l1 l2 l3) (e4_one l0 l1 l2 l3) ?_
      refine hK _ _ ?_
      clear hK K
      refine wpAny_ready (rs := [1]) (by kernel_rfl) (by simp) ?_
      refine AllReady.cons rfl (fun K hK => ?_) (AllReady.nil)
      refine step_load_row rfl ET (.tmp 5) rfl (w.heap.size + 1 + 1 + 1) rfl ET (eA u4) (0, 0) _ H3 Tryz.underlying80 rfl (infoEA u4) ?_
      refine hK _ _ ?_
      clear hK K
      refine wpAny_ready (rs := [3]) (by kernel_rfl) (by simp) ?_
      refine AllReady.cons rfl (fun K hK => ?_) (AllReady.nil)
      refine step_store_same rfl ET (.tmp 5) (.tmp 43) rfl (w.heap.size + 1 + 1 + 1) (eA u4) rfl rfl ET H3 (infoEA u4) (oneEA u4) ?_
      refine hK _ _ ?_
      clear hK K
      refine wpAny_done (by kernel_rfl) ?_ _
      go_wp2
      exact bodyPost_ret (v := .tuple #[.agg (e4 l0 l1 l2 l3), .agg (eA u4)]) (results_two_e rfl _ _ ⟨w.heap.size + 1 + 1, 0, none⟩ ⟨w.heap.size + 1 + 1 + 1, 0, none⟩ _ _ rfl rfl (load_e H2) (run_loadVar_row _ _ ET ET _ (0, 0) _ H3 Tryz.underlying80 rfl (infoEA u4))) rfl ⟨by rw [HL.out, HU.out], HB.drew⟩
  · refine step_load_row rfl ET (.tmp 5) rfl (w.heap.size + 1 + 1 + 1) rfl ET (eA u4) (0, 0) _ H3 Tryz.underlying80 rfl (infoEA u4) ?_
    refine hK _ _ ?_
    clear hK K
    refine wpAny_ready (rs := [0]) (by kernel_rfl) (by simp) ?_
    refine AllReady.cons rfl (fun K hK => ?_) (AllReady.nil)
    refine step_load_row rfl ET (.tmp 4) rfl (w.heap.size + 1 + 1) rfl ET (e4 l0 l1 l2 l3) (0, 0) _ H2 Tryz.underlying80 rfl (infoE4 l0 l1 l2 l3) ?_
    refine hK _ _ ?_
    clear hK K
    refine wpAny_ready (rs := [2]) (by kernel_rfl) (by simp) ?_
    refine AllReady.cons rfl (fun K hK => ?_) (AllReady.nil)
    refine step_store_same rfl ET (.tmp 4) (.tmp 42) rfl (w.heap.size + 1 + 1) (e4 l0 l1 l2 l3) rfl rfl ET H2 (infoE4 l0 l1 l2 l3) (e4_one l0 l1 l2 l3) ?_
    refine hK _ _ ?_
    clear hK K
    refine wpAny_ready (rs := [3]) (by kernel_rfl) (by simp) ?_
    refine AllReady.cons rfl (fun K hK => ?_) (AllReady.nil)
    refine step_store_same rfl ET (.tmp 5) (.tmp 43) rfl (w.heap.size + 1 + 1 + 1) (eA u4) rfl rfl ET H3 (infoEA u4) (oneEA u4) ?_
    refine hK _ _ ?_
    clear hK K
    refine wpAny_done (by kernel_rfl) ?_ _
    go_wp2
    exact bodyPost_ret (v := .tuple #[.agg (e4 l0 l1 l2 l3), .agg (eA u4)]) (results_two_e rfl _ _ ⟨w.heap.size + 1 + 1, 0, none⟩ ⟨w.heap.size + 1 + 1 + 1, 0, none⟩ _ _ rfl rfl (load_e H2) (run_loadVar_row _ _ ET ET _ (0, 0) _ H3 Tryz.underlying80 rfl (infoEA u4))) rfl ⟨by rw [HL.out, HU.out], HB.drew⟩
end
end Go.Proofs.YtgehfbcagaaggaaGreatDoor
end
section
namespace Go.Proofs.YtgehfbcagaaggaaGreatDoor
section
open Go.RowKit
set_option linter.unusedVariables false
set_option linter.unusedSimpArgs false
/-- Three blocks: what came in, and what goes out. -/
def Fs (w wr : World) (X Y : Array Value) : Prop :=
  wr.heap[w.heap.size]? = some (.cells X ET (0, 0)) ∧ wr.heap[w.heap.size + 1]? = some (.cells Y ET (0, 0)) ∧ wr.heap[w.heap.size + 1 + 1]? = some (.cells z4 ET (0, 0)) ∧ Below w.heap.size w wr ∧ w.heap.size + 1 + 1 < wr.heap.size
theorem Fs.call {w wr w' : World} {X Y : Array Value} (h : Fs w wr X Y) (hb : Below wr.heap.size wr w') : Fs w w' X Y := by
  obtain ⟨h0, h1, h2, h4, h5⟩ := h
  exact ⟨block_below hb (by omega) h0, block_below hb (by omega) h1, block_below hb (by omega) h2, h4.trans (hb.mono (by omega)), by have := hb.size; omega⟩
theorem Fs.start (w : World) (X Y : Array Value) : Fs w (((w.alloc (.cells X ET)).alloc (.cells Y ET)).alloc (.cells z4 ET)) X Y :=
  ⟨blkA (blkA (blkN rfl X ET) _) _, blkA (blkN (by simp) Y ET) _, blkN (by simp) z4 ET, (((Below.refl _ _).alloc (Nat.le_refl _) _).alloc (by simp) _).alloc (by simp; omega) _, by simp⟩
/-- Two blocks: what came in, and what goes out. -/
def Fo (w wr : World) (X : Array Value) : Prop :=
  wr.heap[w.heap.size]? = some (.cells X ET (0, 0)) ∧ wr.heap[w.heap.size + 1]? = some (.cells z4 ET (0, 0)) ∧ Below w.heap.size w wr ∧ w.heap.size + 1 < wr.heap.size
theorem Fo.call {w wr w' : World} {X : Array Value} (h : Fo w wr X) (hb : Below wr.heap.size wr w') : Fo w w' X := by
  obtain ⟨h0, h1, h4, h5⟩ := h
  exact ⟨block_below hb (by omega) h0, block_below hb (by omega) h1, h4.trans (hb.mono (by omega)), by have := hb.size; omega⟩
theorem Fo.start (w : World) (X : Array Value) : Fo w ((w.alloc (.cells X ET)).alloc (.cells z4 ET)) X :=
  ⟨blkA (blkN rfl X ET) _, blkN (by simp) z4 ET, ((Below.refl _ _).alloc (Nat.le_refl _) _).alloc (by simp) _, by simp⟩
theorem pp_big : 2 * pp < 115792089237316195423570985008687907853269984665640564039457584007913129639936 := by decide +kernel
theorem fold_num {l u t : Nat} (h : t = 38 * u + l) : (t % 57896044618658097711785492504343953926634992332820282019728792003956564819968 + 19 * (t / 57896044618658097711785492504343953926634992332820282019728792003956564819968)) % pp = (l + 115792089237316195423570985008687907853269984665640564039457584007913129639936 * u) % pp := by
  rw [pp_def]
  omega
theorem Add_e (x y : Nat) (w : World) (hx : x < pp) (hy : y < pp) :
    Calls Tryz.prog 109 #[.agg (eA x), .agg (eA y)] w fun e w' => e = .returned (.agg (eA ((x + y) % pp))) ∧ Below w.heap.size w w' := by
  have hp := pp_big
  have C1 := hid (fun W => sum_e x y W (by omega))
  have C2 := hid (fun W => below_e (x + y) W (by omega))
  have F := hid (Fs.start w (eA x) (eA y))
  have X1 := hid F.out.1
  have Y1 := hid F.out.2.1
  clear hx hy hp
  go_enter Tryz.func109, Tryz.ntmps109
  go_wp2_with (first | (with_reducible refine wpList_load_row rfl ET (.tmp 2) rfl (w.heap.size) rfl ET (eA x) (0, 0) _ X1.out Tryz.underlying80 rfl (infoEA _) ?_) | (with_reducible refine wpList_load_row rfl ET (.tmp 3) rfl (w.heap.size + 1) rfl ET (eA y) (0, 0) _ Y1.out Tryz.underlying80 rfl (infoEA _) ?_))
  refine (C1.out _).mono ?_
  rintro e w1 ⟨rfl, hb⟩
  have F1 := hid (F.out.call hb)
  clear hb F
  clear X1 Y1
  go_wp2_with fail
  refine (C2.out _).mono ?_
  rintro e w2 ⟨rfl, hb⟩
  have F2 := hid (F1.out.call hb)
  clear hb F1
  have Z := hid F2.out.2.2.1
  go_wp2_with (with_reducible refine wpList_store_row rfl ET (.tmp 4) _ rfl (w.heap.size + 1 + 1) (eA ((x + y) % pp)) rfl rfl ET z4 Z.out (infoEA _) (sizeZA _) (oneEA _) ?_)
  refine bodyPost_ret (v := .agg (eA ((x + y) % pp))) (results_cell_row rfl _ _ (w.heap.size + 1 + 1) ET _ (0, 0) _ rfl (setRow_heap _ _ _ _ _ _ Z.out) Tryz.underlying80 rfl (infoEA _)) rfl ⟨rfl, ?_⟩
  exact belowRow F2.out.2.2.2.1 (by omega) _
set_option maxHeartbeats 400000 in
theorem Sub_e (x y : Nat) (w : World) (hx : x < pp) (hy : y < pp) :
    Calls Tryz.prog 102 #[.agg (eA x), .agg (eA y)] w fun e w' => e = .returned (.agg (eA ((x + (pp - y)) % pp))) ∧ Below w.heap.size w w' := by
  have hp := pp_big
  have C1 := hid (fun W => missing_e y W (by omega))
  have C2 := hid (fun W => sum_e x (pp - y) W (by omega))
  have C3 := hid (fun W => below_e (x + (pp - y)) W (by omega))
  have F := hid (Fs.start w (eA x) (eA y))
  clear hx hy hp
  go_enter Tryz.func102, Tryz.ntmps102
  go_wp2
  generalize hw0 : ((w.alloc (.cells (eA x) ET)).alloc (.cells (eA y) ET)).alloc (.cells z4 ET) = w0 at F ⊢
  clear hw0
  refine wp_region_grown_tail 5 (by kernel_rfl) (by kernel_rfl) ?_
  have D1 : Hid (∀ w1, Below w0.heap.size w0 w1 → Calls Tryz.prog 114 #[.agg (eA y)] w1 fun e w2 => e = .returned (.agg (eA (pp - y))) ∧ Below w0.heap.size w0 w2) := hid fun w1 hw1 =>
    (C1.out w1).mono fun e w2 h => ⟨h.1, hw1.trans (h.2.mono hw1.size)⟩
  have D2 : Hid (∀ w1, Below w0.heap.size w0 w1 → Calls Tryz.prog 125 #[.agg (eA x), .agg (eA (pp - y))] w1 fun e w2 => e = .returned (.agg (eA (x + (pp - y)))) ∧ Below w0.heap.size w0 w2) := hid fun w1 hw1 =>
    (C2.out w1).mono fun e w2 h => ⟨h.1, hw1.trans (h.2.mono hw1.size)⟩
  have D3 : Hid (∀ w1, Below w0.heap.size w0 w1 → Calls Tryz.prog 110 #[.agg (eA (x + (pp - y)))] w1 fun e w2 => e = .returned (.agg (eA ((x + (pp - y)) % pp))) ∧ Below w0.heap.size w0 w2) := hid fun w1 hw1 =>
    (C3.out w1).mono fun e w2 h => ⟨h.1, hw1.trans (h.2.mono hw1.size)⟩
  refine quiet_row rfl ET (.tmp 2) rfl w.heap.size rfl ET (eA x) (0, 0) _ (fun w' h => (F.out.call h).1) Tryz.underlying80 rfl (infoEA _) ?_
  refine quiet_row rfl ET (.tmp 3) rfl (w.heap.size + 1) rfl ET (eA y) (0, 0) _ (fun w' h => (F.out.call h).2.1) Tryz.underlying80 rfl (infoEA _) ?_
  refine wpQuiet_step (fun K hK => ?_)
  go_simp
  refine ⟨_, D1.out, hK _ ?_⟩
  clear hK K
  refine wpQuiet_step (fun K hK => ?_)
  go_simp
  refine ⟨_, D2.out, hK _ ?_⟩
  clear hK K
  refine wpQuiet_step (fun K hK => ?_)
  go_simp
  refine ⟨_, D3.out, hK _ ?_⟩
  clear hK K
  refine wpQuiet_nil ?_
  intro w2 hb
  have F2 := hid (F.out.call hb)
  clear hb F
  simp only [List.drop_succ_cons, List.drop_zero]
  have Z := hid F2.out.2.2.1
  go_wp2_with (with_reducible refine wpList_store_row rfl ET (.tmp 4) _ rfl (w.heap.size + 1 + 1) (eA ((x + (pp - y)) % pp)) rfl rfl ET z4 Z.out (infoEA _) (sizeZA _) (oneEA _) ?_)
  refine bodyPost_ret (v := .agg (eA ((x + (pp - y)) % pp))) (results_cell_row rfl _ _ (w.heap.size + 1 + 1) ET _ (0, 0) _ rfl (setRow_heap _ _ _ _ _ _ Z.out) Tryz.underlying80 rfl (infoEA _)) rfl ⟨rfl, ?_⟩
  exact belowRow F2.out.2.2.2.1 (by omega) _
end
section
open Go.RowKit
set_option linter.unusedVariables false
set_option linter.unusedSimpArgs false
theorem fold_parts {t x0 q q0 q1 q2 q3 : Nat} (h : t = x0 + 18446744073709551616 * q) (h0 : x0 < 18446744073709551616) (hq : q = q0 + 18446744073709551616 * q1 + 340282366920938463463374607431768211456 * q2 + 6277101735386680763835789423207666416102355444464034512896 * q3)
    (b0 : q0 < 18446744073709551616) (b1 : q1 < 18446744073709551616) (b2 : q2 < 18446744073709551616) :
    t % 57896044618658097711785492504343953926634992332820282019728792003956564819968 = x0 + 18446744073709551616 * q0 + 340282366920938463463374607431768211456 * q1 + 6277101735386680763835789423207666416102355444464034512896 * (q2 % 9223372036854775808) ∧
    t / 57896044618658097711785492504343953926634992332820282019728792003956564819968 = q3 * 2 + q2 / 9223372036854775808 := by
  have e : q2 = q2 % 9223372036854775808 + 9223372036854775808 * (q2 / 9223372036854775808) := by omega
  have hr : q2 % 9223372036854775808 < 9223372036854775808 := Nat.mod_lt _ (by omega)
  generalize q2 % 9223372036854775808 = r at *
  generalize q2 / 9223372036854775808 = s at *
  have ht : t = (x0 + 18446744073709551616 * q0 + 340282366920938463463374607431768211456 * q1 + 6277101735386680763835789423207666416102355444464034512896 * r) + 57896044618658097711785492504343953926634992332820282019728792003956564819968 * (q3 * 2 + s) := by omega
  have hl : x0 + 18446744073709551616 * q0 + 340282366920938463463374607431768211456 * q1 + 6277101735386680763835789423207666416102355444464034512896 * r < 57896044618658097711785492504343953926634992332820282019728792003956564819968 := by omega
  rw [ht, Nat.add_mul_mod_self_left, Nat.mod_eq_of_lt hl, Nat.add_mul_div_left _ _ (by omega), Nat.div_eq_of_lt hl, Nat.zero_add]
  exact ⟨rfl, rfl⟩
theorem fold_lt {t l u : Nat} (h : t = 38 * u + l) (hl : l < 115792089237316195423570985008687907853269984665640564039457584007913129639936) (hu : u < 115792089237316195423570985008687907853269984665640564039457584007913129639936) :
    t / 57896044618658097711785492504343953926634992332820282019728792003956564819968 < 78 ∧ t / 18446744073709551616 < 115792089237316195423570985008687907853269984665640564039457584007913129639936 := by omega
theorem fold_two {a b : Nat} (ha : a < 57896044618658097711785492504343953926634992332820282019728792003956564819968) (hb : b < 78) : a + 19 * b < 2 * pp ∧ a + 19 * b < 115792089237316195423570985008687907853269984665640564039457584007913129639936 := by
  rw [pp_def]
  omega
set_option maxHeartbeats 1000000 in
theorem folded_e (l u : Nat) (w : World) (hl : l < 115792089237316195423570985008687907853269984665640564039457584007913129639936) (hu : u < 115792089237316195423570985008687907853269984665640564039457584007913129639936) :
    Calls Tryz.prog 128 #[.agg (eA l), .agg (eA u)] w fun e w' => e = .returned (.agg (eA ((l + 115792089237316195423570985008687907853269984665640564039457584007913129639936 * u) % pp))) ∧ Below w.heap.size w w' := by
  have hr := fun W => row_e 38 u l W (by omega) hu hl
  obtain ⟨t, ht⟩ : ∃ t, t = 38 * u + l := ⟨_, rfl⟩
  rw [← ht] at hr
  have hfl := fold_lt ht hl hu
  obtain ⟨x0, hx0⟩ : ∃ x, x = t % 18446744073709551616 := ⟨_, rfl⟩
  obtain ⟨q, hq⟩ : ∃ q, q = t / 18446744073709551616 := ⟨_, rfl⟩
  rw [← hx0, ← hq] at hr
  have hdm := div_mod_sum hx0 hq
  have hx0l := rest_lt hx0
  have hql := hfl.2
  rw [← hq] at hql
  obtain ⟨q0, q1, q2, q3, b0, b1, b2, b3, hqv, eq⟩ := words q hql
  rw [eq] at hr
  have hparts := fold_parts hdm hx0l hqv b0 b1 b2
  obtain ⟨r2, hr2⟩ : ∃ r, r = q2 % 9223372036854775808 := ⟨_, rfl⟩
  obtain ⟨y, hy⟩ : ∃ y, y = q3 * 2 + q2 / 9223372036854775808 := ⟨_, rfl⟩
  have hyl : y < 78 := by rw [hy, ← hparts.2]; exact hfl.1
  obtain ⟨m, hm⟩ : ∃ m, m = x0 + 18446744073709551616 * q0 + 340282366920938463463374607431768211456 * q1 + 6277101735386680763835789423207666416102355444464034512896 * r2 := ⟨_, rfl⟩
  have hr2l : r2 < 9223372036854775808 := by rw [hr2]; exact Nat.mod_lt _ (by omega)
  have hml : m < 57896044618658097711785492504343953926634992332820282019728792003956564819968 := by rw [hm, hr2, ← hparts.1]; exact Nat.mod_lt _ (by omega)
  have hmA : eA m = e4 x0 q0 q1 r2 := by rw [hm]; exact eA_of _ _ _ _ hx0l b0 b1 (by omega)
  have hyA := eA_small (19 * y) (by omega)
  have htwo := fold_two hml hyl
  have hfn := fold_num ht
  rw [hparts.1, hparts.2, ← hr2, ← hy, ← hm] at hfn
  have hs := fun W => sum_e m (19 * y) W htwo.2
  rw [hmA, hyA] at hs
  have hb := fun W => below_e (m + 19 * y) W htwo.1
  rw [hfn] at hb
  obtain ⟨v, hv⟩ : ∃ v, v = (l + 115792089237316195423570985008687907853269984665640564039457584007913129639936 * u) % pp := ⟨_, rfl⟩
  rw [← hv] at hb ⊢
  have R := hid hr; have S := hid hs; have C := hid hb
  have w1 : IntKind.u64.wrap ((q3 : Int) * 2) = (q3 : Int) * 2 := by rw [IntKind.wrap_u64]; omega
  have w2 : bits .or .u64 ((q3 : Int) * 2) ((q2 : Int) / 9223372036854775808) = (y : Int) := by
    have h := or_join 1 (q3 * 2) (q2 / 9223372036854775808) (by omega) (by omega) (by omega) (by omega)
    have e1 : ((q3 * 2 : Nat) : Int) = (q3 : Int) * 2 := by omega
    have e2 : ((q2 / 9223372036854775808 : Nat) : Int) = (q2 : Int) / 9223372036854775808 := by omega
    rw [e1, e2, ← hy] at h
    exact h
  have w3 : IntKind.u64.wrap (19 * (y : Int)) = ((19 * y : Nat) : Int) := by rw [IntKind.wrap_u64]; omega
  have w4 : bits .and .u64 (q2 : Int) 9223372036854775807 = (r2 : Int) := by rw [and_top q2 b2, hr2]
  obtain ⟨y19, hy19⟩ : ∃ z, z = 19 * y := ⟨_, rfl⟩
  rw [← hy19] at w3 S C
  have F := hid (Fs.start w (eA l) (eA u))
  have X1 := hid F.out.1
  have Y1 := hid F.out.2.1
  clear hr ht hfl hx0 hq hdm hx0l hql b0 b1 b2 b3 hqv eq hparts hr2 hy hyl hm hr2l hml hmA hyA htwo hfn hs hb hv hy19 hl hu
  go_enter Tryz.func128, Tryz.ntmps128
  go_wp2_with (first | (with_reducible refine wpList_load_row rfl ET (.tmp 2) rfl (w.heap.size) rfl ET (eA l) (0, 0) _ X1.out Tryz.underlying80 rfl (infoEA _) ?_) | (with_reducible refine wpList_load_row rfl ET (.tmp 3) rfl (w.heap.size + 1) rfl ET (eA u) (0, 0) _ Y1.out Tryz.underlying80 rfl (infoEA _) ?_))
  refine (R.out _).mono ?_
  rintro e w1 ⟨rfl, hb⟩
  have F1 := hid (F.out.call hb)
  clear hb F
  clear X1 Y1
  go_wp2_with fail
  have FA := hid (F1.out.call ((Below.refl w1.heap.size w1).alloc (Nat.le_refl _) (.cells (e4 q0 q1 q2 q3) ET)))
  clear F1
  refine (S.out _).mono ?_
  rintro e w2 ⟨rfl, hb⟩
  have F2 := hid (FA.out.call hb)
  clear hb FA
  go_wp2_with fail
  refine (C.out _).mono ?_
  rintro e w3 ⟨rfl, hb⟩
  have F3 := hid (F2.out.call hb)
  clear hb F2
  have Z := hid F3.out.2.2.1
  go_wp2_with (with_reducible refine wpList_store_row rfl ET (.tmp 4) _ rfl (w.heap.size + 1 + 1) (eA (v)) rfl rfl ET z4 Z.out (infoEA _) (sizeZA _) (oneEA _) ?_)
  refine bodyPost_ret (v := .agg (eA (v))) (results_cell_row rfl _ _ (w.heap.size + 1 + 1) ET _ (0, 0) _ rfl (setRow_heap _ _ _ _ _ _ Z.out) Tryz.underlying80 rfl (infoEA _)) rfl ⟨rfl, ?_⟩
  exact belowRow F3.out.2.2.2.1 (by omega) _
theorem mul_back (z : Nat) : z % 115792089237316195423570985008687907853269984665640564039457584007913129639936 + 115792089237316195423570985008687907853269984665640564039457584007913129639936 * (z / 115792089237316195423570985008687907853269984665640564039457584007913129639936) = z := Nat.mod_add_div _ _
theorem mul_high {x y : Nat} (hx : x < 115792089237316195423570985008687907853269984665640564039457584007913129639936) (hy : y < 115792089237316195423570985008687907853269984665640564039457584007913129639936) : x * y / 115792089237316195423570985008687907853269984665640564039457584007913129639936 < 115792089237316195423570985008687907853269984665640564039457584007913129639936 :=
  Nat.div_lt_of_lt_mul (Nat.mul_lt_mul'' hx hy)
theorem pp_lt {x : Nat} (h : x < pp) : x < 115792089237316195423570985008687907853269984665640564039457584007913129639936 := by have := pp_big; omega
theorem Mul_e (x y : Nat) (w : World) (hx : x < pp) (hy : y < pp) :
    Calls Tryz.prog 108 #[.agg (eA x), .agg (eA y)] w fun e w' => e = .returned (.agg (eA (x * y % pp))) ∧ Below w.heap.size w w' := by
  have C1 := hid (fun W => product_e x y W (pp_lt hx) (pp_lt hy))
  have C2 := hid (fun W => folded_e (x * y % 115792089237316195423570985008687907853269984665640564039457584007913129639936) (x * y / 115792089237316195423570985008687907853269984665640564039457584007913129639936) W (Nat.mod_lt _ (by omega)) (mul_high (pp_lt hx) (pp_lt hy)))
  rw [mul_back] at C2
  obtain ⟨lo, hlo⟩ : ∃ a, a = x * y % 115792089237316195423570985008687907853269984665640564039457584007913129639936 := ⟨_, rfl⟩
  obtain ⟨hi, hhi⟩ : ∃ a, a = x * y / 115792089237316195423570985008687907853269984665640564039457584007913129639936 := ⟨_, rfl⟩
  rw [← hlo, ← hhi] at C1 C2
  have F := hid (Fs.start w (eA x) (eA y))
  have X1 := hid F.out.1
  have Y1 := hid F.out.2.1
  clear hx hy hlo hhi
  go_enter Tryz.func108, Tryz.ntmps108
  go_wp2_with (first | (with_reducible refine wpList_load_row rfl ET (.tmp 2) rfl (w.heap.size) rfl ET (eA x) (0, 0) _ X1.out Tryz.underlying80 rfl (infoEA _) ?_) | (with_reducible refine wpList_load_row rfl ET (.tmp 3) rfl (w.heap.size + 1) rfl ET (eA y) (0, 0) _ Y1.out Tryz.underlying80 rfl (infoEA _) ?_))
  refine (C1.out _).mono ?_
  rintro e w1 ⟨rfl, hb⟩
  have F1 := hid (F.out.call hb)
  clear hb F
  clear X1 Y1
  go_wp2_with fail
  refine (C2.out _).mono ?_
  rintro e w2 ⟨rfl, hb⟩
  have F2 := hid (F1.out.call hb)
  clear hb F1
  have Z := hid F2.out.2.2.1
  go_wp2_with (with_reducible refine wpList_store_row rfl ET (.tmp 4) _ rfl (w.heap.size + 1 + 1) (eA (x * y % pp)) rfl rfl ET z4 Z.out (infoEA _) (sizeZA _) (oneEA _) ?_)
  refine bodyPost_ret (v := .agg (eA (x * y % pp))) (results_cell_row rfl _ _ (w.heap.size + 1 + 1) ET _ (0, 0) _ rfl (setRow_heap _ _ _ _ _ _ Z.out) Tryz.underlying80 rfl (infoEA _)) rfl ⟨rfl, ?_⟩
  exact belowRow F2.out.2.2.2.1 (by omega) _
end
end Go.Proofs.YtgehfbcagaaggaaGreatDoor
end
section
namespace Go.Proofs.YtgehfbcagaaggaaGreatDoor
section
open Go.RowKit
set_option linter.unusedVariables false
set_option linter.unusedSimpArgs false
/-- What Of tells. -/
def ofN (xs : List UInt8) : Nat := leN (xs.take 32) % 57896044618658097711785492504343953926634992332820282019728792003956564819968 % pp
theorem ofN_lt (xs : List UInt8) : ofN xs < pp := Nat.mod_lt _ pp_pos
theorem belowF_drewN {B : Nat} {a w : World} (h : Below B a w) (n : Nat) : Below B a (w.drewN n) := ⟨h.os, h.tape, h.output, h.size, h.block⟩
theorem of_set (N t k : Nat) (hk : k < 4) (hN : N < 18446744073709551616 ^ (k + 1)) (ht : N / 18446744073709551616 ^ k + t < 18446744073709551616) :
    eA (N + 18446744073709551616 ^ k * t) = (eA N).setIfInBounds k (.int .u64 ((N / 18446744073709551616 ^ k + t : Nat) : Int)) ∧ (eA N)[k]? = some (.int .u64 ((N / 18446744073709551616 ^ k : Nat) : Int)) := by
  have hk4 : k = 0 ∨ k = 1 ∨ k = 2 ∨ k = 3 := by omega
  unfold eA
  rcases hk4 with rfl | rfl | rfl | rfl
  · have h1 : (N + 1 * t) % 18446744073709551616 = N + t := by omega
    have h2 : (N + 1 * t) / 18446744073709551616 % 18446744073709551616 = N / 18446744073709551616 % 18446744073709551616 := by omega
    have h3 : (N + 1 * t) / 340282366920938463463374607431768211456 % 18446744073709551616 = N / 340282366920938463463374607431768211456 % 18446744073709551616 := by omega
    have h4 : (N + 1 * t) / 6277101735386680763835789423207666416102355444464034512896 % 18446744073709551616 = N / 6277101735386680763835789423207666416102355444464034512896 % 18446744073709551616 := by omega
    have h5 : N / 1 = N := by omega
    have h6 : N % 18446744073709551616 = N := by omega
    simp only [Nat.pow_zero, h1, h2, h3, h4, h5, h6]
    exact ⟨rfl, rfl⟩
  · have h1 : (N + 18446744073709551616 * t) % 18446744073709551616 = N % 18446744073709551616 := by omega
    have h2 : (N + 18446744073709551616 * t) / 18446744073709551616 % 18446744073709551616 = N / 18446744073709551616 + t := by omega
    have h3 : (N + 18446744073709551616 * t) / 340282366920938463463374607431768211456 % 18446744073709551616 = N / 340282366920938463463374607431768211456 % 18446744073709551616 := by omega
    have h4 : (N + 18446744073709551616 * t) / 6277101735386680763835789423207666416102355444464034512896 % 18446744073709551616 = N / 6277101735386680763835789423207666416102355444464034512896 % 18446744073709551616 := by omega
    have h6 : N / 18446744073709551616 % 18446744073709551616 = N / 18446744073709551616 := by omega
    simp only [Nat.pow_one, h1, h2, h3, h4, h6]
    exact ⟨rfl, rfl⟩
  · have e : (18446744073709551616 : Nat) ^ 2 = 340282366920938463463374607431768211456 := by decide
    rw [e] at ht ⊢
    have e3 : (18446744073709551616 : Nat) ^ (2 + 1) = 6277101735386680763835789423207666416102355444464034512896 := by decide
    rw [e3] at hN
    have h1 : (N + 340282366920938463463374607431768211456 * t) % 18446744073709551616 = N % 18446744073709551616 := by omega
    have h2 : (N + 340282366920938463463374607431768211456 * t) / 18446744073709551616 % 18446744073709551616 = N / 18446744073709551616 % 18446744073709551616 := by omega
    have h3 : (N + 340282366920938463463374607431768211456 * t) / 340282366920938463463374607431768211456 % 18446744073709551616 = N / 340282366920938463463374607431768211456 + t := by omega
    have h4 : (N + 340282366920938463463374607431768211456 * t) / 6277101735386680763835789423207666416102355444464034512896 % 18446744073709551616 = N / 6277101735386680763835789423207666416102355444464034512896 % 18446744073709551616 := by omega
    have h6 : N / 340282366920938463463374607431768211456 % 18446744073709551616 = N / 340282366920938463463374607431768211456 := by omega
    simp only [h1, h2, h3, h4, h6]
    exact ⟨rfl, rfl⟩
  · have e : (18446744073709551616 : Nat) ^ 3 = 6277101735386680763835789423207666416102355444464034512896 := by decide
    rw [e] at ht ⊢
    have e3 : (18446744073709551616 : Nat) ^ (3 + 1) = 115792089237316195423570985008687907853269984665640564039457584007913129639936 := by decide
    rw [e3] at hN
    have h1 : (N + 6277101735386680763835789423207666416102355444464034512896 * t) % 18446744073709551616 = N % 18446744073709551616 := by omega
    have h2 : (N + 6277101735386680763835789423207666416102355444464034512896 * t) / 18446744073709551616 % 18446744073709551616 = N / 18446744073709551616 % 18446744073709551616 := by omega
    have h3 : (N + 6277101735386680763835789423207666416102355444464034512896 * t) / 340282366920938463463374607431768211456 % 18446744073709551616 = N / 340282366920938463463374607431768211456 % 18446744073709551616 := by omega
    have h4 : (N + 6277101735386680763835789423207666416102355444464034512896 * t) / 6277101735386680763835789423207666416102355444464034512896 % 18446744073709551616 = N / 6277101735386680763835789423207666416102355444464034512896 + t := by omega
    have h6 : N / 6277101735386680763835789423207666416102355444464034512896 % 18446744073709551616 = N / 6277101735386680763835789423207666416102355444464034512896 := by omega
    simp only [h1, h2, h3, h4, h6]
    exact ⟨rfl, rfl⟩
theorem pow_parts (i : Nat) : 256 ^ i = 18446744073709551616 ^ (i / 8) * 2 ^ (8 * (i % 8)) := by
  rw [show (18446744073709551616 : Nat) = 2 ^ 64 by decide, show (256 : Nat) = 2 ^ 8 by decide, ← Nat.pow_mul, ← Nat.pow_mul, ← Nat.pow_add]
  congr 1
  omega
/-- One byte more: q the word, s the shift. -/
theorem of_step (N b i : Nat) (hi : i < 32) (hN : N < 256 ^ i) (hb : b < 256) :
    N / 18446744073709551616 ^ (i / 8) < 2 ^ (8 * (i % 8)) ∧ b * 2 ^ (8 * (i % 8)) < 18446744073709551616 ∧ N / 18446744073709551616 ^ (i / 8) + b * 2 ^ (8 * (i % 8)) < 18446744073709551616 ∧
    eA (N + 256 ^ i * b) = (eA N).setIfInBounds (i / 8) (.int .u64 ((N / 18446744073709551616 ^ (i / 8) + b * 2 ^ (8 * (i % 8)) : Nat) : Int)) ∧ (eA N)[i / 8]? = some (.int .u64 ((N / 18446744073709551616 ^ (i / 8) : Nat) : Int)) := by
  have hp := pow_parts i
  rw [hp] at hN ⊢
  have h7 : 2 ^ (8 * (i % 8)) ≤ 2 ^ 56 := Nat.pow_le_pow_right (by omega) (by omega)
  have hk : i / 8 < 4 := by omega
  have hB : 0 < 18446744073709551616 ^ (i / 8) := Nat.pow_pos (by omega)
  have hnext : 18446744073709551616 ^ (i / 8 + 1) = 18446744073709551616 ^ (i / 8) * 18446744073709551616 := Nat.pow_succ ..
  generalize hm : 2 ^ (8 * (i % 8)) = m at *
  generalize i / 8 = k at *
  have hd : N / 18446744073709551616 ^ k < m := Nat.div_lt_of_lt_mul hN
  have hbm : b * m + m ≤ 256 * m := by
    have h := Nat.mul_le_mul_right m (show b + 1 ≤ 256 by omega)
    rw [Nat.add_mul, Nat.one_mul] at h
    exact h
  have hlt : N < 18446744073709551616 ^ (k + 1) := by
    rw [hnext]
    exact Nat.lt_of_lt_of_le hN (Nat.mul_le_mul_left _ (by omega))
  have hs := of_set N (b * m) k hk hlt (by omega)
  rw [Nat.mul_assoc, Nat.mul_comm m b]
  exact ⟨hd, by omega, by omega, hs.1, hs.2⟩
/-- The lower bits joined with the higher ones. -/
theorem or_high (a b s : Nat) (ha : a < 2 ^ s) (hb : b * 2 ^ s < 18446744073709551616) (h1 : a < 18446744073709551616) : bits .or .u64 (a : Int) ((b * 2 ^ s : Nat) : Int) = ((a + b * 2 ^ s : Nat) : Int) := by
  rw [u64_or_nat a (b * 2 ^ s) h1 hb, Nat.or_comm]
  congr 1
  rw [Nat.mul_comm, Nat.add_comm]
  exact (Nat.two_pow_add_eq_or_of_lt ha b).symm
theorem top_cut {M a b c d : Nat} (hM : M = a + 18446744073709551616 * b + 340282366920938463463374607431768211456 * c + 6277101735386680763835789423207666416102355444464034512896 * d) (ha : a < 18446744073709551616) (hb : b < 18446744073709551616) (hc : c < 18446744073709551616) :
    M % 57896044618658097711785492504343953926634992332820282019728792003956564819968 = a + 18446744073709551616 * b + 340282366920938463463374607431768211456 * c + 6277101735386680763835789423207666416102355444464034512896 * (d % 9223372036854775808) := by
  have e : d = d % 9223372036854775808 + 9223372036854775808 * (d / 9223372036854775808) := by omega
  have hr : d % 9223372036854775808 < 9223372036854775808 := Nat.mod_lt _ (by omega)
  generalize d % 9223372036854775808 = r at *
  generalize d / 9223372036854775808 = s at *
  have ht : M = (a + 18446744073709551616 * b + 340282366920938463463374607431768211456 * c + 6277101735386680763835789423207666416102355444464034512896 * r) + 57896044618658097711785492504343953926634992332820282019728792003956564819968 * s := by omega
  have hl : a + 18446744073709551616 * b + 340282366920938463463374607431768211456 * c + 6277101735386680763835789423207666416102355444464034512896 * r < 57896044618658097711785492504343953926634992332820282019728792003956564819968 := by omega
  rw [ht, Nat.add_mul_mod_self_left, Nat.mod_eq_of_lt hl]
theorem take_cut (xs : List UInt8) : xs.take (min xs.length 32) = xs.take 32 := by
  rcases Nat.le_total xs.length 32 with h | h
  · rw [Nat.min_eq_left h, List.take_of_length_le (Nat.le_refl _), List.take_of_length_le h]
  · rw [Nat.min_eq_right h]
theorem top_two {a : Nat} (ha : a < 57896044618658097711785492504343953926634992332820282019728792003956564819968) : a < 2 * pp := by rw [pp_def]; omega
abbrev A4T : TypeId := 102
set_option maxRecDepth 100000 in
set_option maxHeartbeats 1000000 in
theorem Of_e (A : Option Addr) (xs : List UInt8) (c : Nat) (w : World) (hS : Sq w w.heap.size A c (bvs xs)) :
    Calls Tryz.prog 83 #[.slice A xs.length c] w fun e w' => e = .returned (.agg (eA (ofN xs))) ∧ Below w.heap.size w w' := by
  have hcap := hS.cap
  rw [bvs_length] at hcap
  obtain ⟨hc1, hc2⟩ := hcap
  have HS := hid hS
  obtain ⟨n, hn⟩ : ∃ n, n = min xs.length 32 := ⟨_, rfl⟩
  have hmin : (if (32 : Int) < (xs.length : Int) then (32 : Int) else (xs.length : Int)) = (n : Int) := by split <;> omega
  have hnc : (n : Int) ≤ (c : Int) := by omega
  have hn0 : (0 : Int) ≤ (n : Int) := by omega
  have hn32 : n ≤ 32 := by omega
  have hnx : n ≤ xs.length := by omega
  have HN := hid hn
  clear hS hn
  go_enter Tryz.func83, Tryz.ntmps83
  go_wp2
  have hrow : ((w.alloc (.cells z4 ET)).alloc (.cells z4 A4T)).heap[w.heap.size + 1]? = some (.cells (eA 0) A4T (0, 0)) := blkN (by simp) z4 A4T
  have hres : ((w.alloc (.cells z4 ET)).alloc (.cells z4 A4T)).heap[w.heap.size]? = some (.cells z4 ET (0, 0)) := blkA (blkN rfl z4 ET) _
  have hbel : Below w.heap.size w ((w.alloc (.cells z4 ET)).alloc (.cells z4 A4T)) := ((Below.refl _ _).alloc (Nat.le_refl _) _).alloc (by simp) _
  have HROW := hid hrow; have HRES := hid hres; have HB := hid hbel
  clear hrow hres hbel
  generalize (w.alloc (.cells z4 ET)).alloc (.cells z4 A4T) = w0 at *
  go_loopg [12] n (fun g i wr => ∃ k : Nat, k + g = n ∧ i = .int .i64 (k : Int) ∧ wr.heap[w.heap.size + 1]? = some (.cells (eA (leN (xs.take k))) A4T (0, 0)) ∧ wr.heap[w.heap.size]? = some (.cells z4 ET (0, 0)) ∧ Below w.heap.size w wr)
  case atStart => exact ⟨0, by omega, rfl, HROW.out, HRES.out, HB.out⟩
  case round =>
    clear HROW HRES HB
    obtain ⟨k, hk, rfl, hrow, hres, hb⟩ := hrel
    have HK := hid hk; have HB := hid hb; have HROW := hid hrow; have HRES := hid hres
    have hkn : k ≤ n := by omega
    clear hk hb hrow hres
    by_cases hlt : k < n
    · have hx : (k : Int) < (n : Int) := by omega
      have hk0 : (0 : Int) ≤ (k : Int) := by omega
      obtain ⟨b, o, rfl, hbb, hcell⟩ := ((HS.out.below HB.out).lie).byte (k := k) (by omega)
      have hkx : k < xs.length := by omega
      obtain ⟨y, hy⟩ : ∃ y, y = xs[k] := ⟨_, rfl⟩
      rw [← hy] at hcell
      have hyl := y.toNat_lt
      have hst := of_step (leN (xs.take k)) y.toNat k (by omega) (by have h := leN_lt (xs.take k); rwa [List.length_take, Nat.min_eq_left (by omega)] at h) hyl
      have hnx2 : leN (xs.take k) + 256 ^ k * y.toNat = leN (xs.take (k + 1)) := by
        rw [List.take_succ_eq_append_getElem hkx, leN_snoc, List.length_take, Nat.min_eq_left (by omega), hy]
      rw [hnx2] at hst
      obtain ⟨q, hq⟩ : ∃ q, q = k / 8 := ⟨_, rfl⟩
      obtain ⟨r, hr⟩ : ∃ r, r = k % 8 := ⟨_, rfl⟩
      rw [← hq, ← hr] at hst
      have hq1 : ((k : Int)).tdiv 8 = (q : Int) := by rw [Int.tdiv_eq_ediv_of_nonneg hk0]; omega
      have hq2 : (k : Int) / 8 = (q : Int) := by omega
      have hr1 : ((k : Int)).tmod 8 = (r : Int) := by rw [Int.tmod_eq_emod_of_nonneg hk0]; omega
      have hr2 : (k : Int) % 8 = (r : Int) := by omega
      have hq4i : (q : Int) < 4 := by omega
      have hq0i : (0 : Int) ≤ (q : Int) := by omega
      have hr8 : (r : Int) < 8 := by omega
      have hr0i : (0 : Int) ≤ (r : Int) := by omega
      have hqw : IntKind.i64.wrap (q : Int) = (q : Int) := IntWalk.i64_in _ (by omega)
      have hrw : IntKind.i64.wrap (r : Int) = (r : Int) := IntWalk.i64_in _ (by omega)
      obtain ⟨s, hs⟩ : ∃ s, s = 8 * r := ⟨_, rfl⟩
      rw [← hs] at hst
      have hsw : IntKind.i64.wrap ((r : Int) * 8) = (s : Int) := (IntWalk.i64_in _ (by omega)).trans (by omega)
      have hs0 : (0 : Int) ≤ (s : Int) := by omega
      have hs64 : (s : Int) < 64 := by omega
      have hyw : IntKind.u64.wrap (y.toNat : Int) = (y.toNat : Int) := by rw [IntKind.wrap_u64]; omega
      obtain ⟨W0, hW0⟩ : ∃ W0, W0 = leN (xs.take k) / 18446744073709551616 ^ q := ⟨_, rfl⟩
      rw [← hW0] at hst
      have hct : wr.cell? ⟨w.heap.size + 1, q, none⟩ = some (.int .u64 (W0 : Int)) := cell_of HROW.out q _ hst.2.2.2.2
      have hft : wr.frozen? ⟨w.heap.size + 1, q, none⟩ = false := frozen_of_row _ _ _ _ _ HROW.out
      obtain ⟨v, hv⟩ : ∃ v, v = y.toNat * 2 ^ s := ⟨_, rfl⟩
      have hor := or_high W0 y.toNat s hst.1 hst.2.1 (by have := hst.2.2.1; omega)
      rw [← hv] at hst hor
      have hshl : IntKind.u64.wrap ((y.toNat : Int) * 2 ^ s) = (v : Int) := by
        rw [show ((y.toNat : Int) * 2 ^ s) = (v : Int) by rw [hv]; simp]
        have := hst.2.1
        rw [IntKind.wrap_u64]; omega
      have HSS := hid hs; have HV := hid hv
      clear hs hv
      have HST := hid hst; have HY := hid hy; have HQ := hid hq; have HR := hid hr
      clear hst hy hq hr hnx2 hyl hW0 hmin
      go_wp2
      refine wp_region_quiet_tail 12 (by kernel_rfl) (by kernel_rfl) ?_
      simp only [List.take_succ_cons, List.take_zero, List.drop_succ_cons, List.drop_zero]
      repeat (quiet_step (fail))
      refine wpQuiet_nil ?_
      intro _ hw'
      obtain ⟨nq, hw''⟩ := hw'
      subst hw''
      go_wp2
      have hk := HK.out
      have hrow2 := (block_set HROW.out q (.int .u64 ((W0 + v : Nat) : Int))).trans (by rw [← HST.out.2.2.2.1])
      go_roundg (n - k - 1)
      case measure => omega
      case rel =>
        refine ⟨k + 1, by omega, by go_num, hrow2, ?_, ?_⟩
        · exact (heap_setCell_other _ _ _ _ (by simp)).trans HRES.out
        · exact (belowF_drewN HB.out nq).setCell (by simp) _
    · obtain rfl : k = n := by omega
      have hx : ¬ (k : Int) < (k : Int) := by omega
      have hM : leN (xs.take k) < 115792089237316195423570985008687907853269984665640564039457584007913129639936 := by
        have h := leN_lt (xs.take k)
        have h2 : 256 ^ (xs.take k).length ≤ 256 ^ 32 := Nat.pow_le_pow_right (by omega) (by rw [List.length_take]; omega)
        exact Nat.lt_of_lt_of_le h h2
      have hof : ofN xs = leN (xs.take k) % 57896044618658097711785492504343953926634992332820282019728792003956564819968 % pp := by
        rw [HN.out, take_cut]; rfl
      obtain ⟨p0, p1, p2, p3, b0, b1, b2, b3, hMv, eM⟩ := words _ hM
      have hcut := top_cut hMv b0 b1 b2
      obtain ⟨r3, hr3⟩ : ∃ r, r = p3 % 9223372036854775808 := ⟨_, rfl⟩
      have hr3l : r3 < 9223372036854775808 := by rw [hr3]; exact Nat.mod_lt _ (by omega)
      have hb := fun W => below_e (leN (xs.take k) % 57896044618658097711785492504343953926634992332820282019728792003956564819968) W (top_two (Nat.mod_lt _ (by omega)))
      rw [← hof, hcut, ← hr3, eA_of _ _ _ _ b0 b1 b2 (by omega)] at hb
      have C := hid hb
      have hand : bits .and .u64 (p3 : Int) 9223372036854775807 = (r3 : Int) := by rw [and_top p3 b3, hr3]
      have hrow := HROW.out
      rw [eM] at hrow
      have c0 : wr.cell? ⟨w.heap.size + 1, 0, none⟩ = some (.int .u64 (p0 : Int)) := cell_of hrow 0 _ rfl
      have c1 : wr.cell? ⟨w.heap.size + 1, 1, none⟩ = some (.int .u64 (p1 : Int)) := cell_of hrow 1 _ rfl
      have c2 : wr.cell? ⟨w.heap.size + 1, 2, none⟩ = some (.int .u64 (p2 : Int)) := cell_of hrow 2 _ rfl
      have c3 : wr.cell? ⟨w.heap.size + 1, 3, none⟩ = some (.int .u64 (p3 : Int)) := cell_of hrow 3 _ rfl
      clear hM hof b0 b1 b2 b3 hMv eM hcut hr3 hr3l hb hrow hmin
      go_wp2_with fail
      refine (C.out _).mono ?_
      rintro e w1 ⟨rfl, hb⟩
      have hl : w.heap.size < wr.heap.size := block_lt HRES.out
      have Z := hid (block_below hb hl HRES.out)
      have HB2 := hid (HB.out.trans (hb.mono (by omega)))
      clear hb c0 c1 c2 c3
      go_wp2_with (with_reducible refine wpList_store_row rfl ET (.tmp 2) _ rfl (w.heap.size) (eA (ofN xs)) rfl rfl ET z4 Z.out (infoEA _) (sizeZA _) (oneEA _) ?_)
      refine bodyPost_ret (v := .agg (eA (ofN xs))) (results_cell_row rfl _ _ (w.heap.size) ET _ (0, 0) _ rfl (setRow_heap _ _ _ _ _ _ Z.out) Tryz.underlying80 rfl (infoEA _)) rfl ⟨rfl, ?_⟩
      exact belowRow HB2.out (by omega) _
end
section
open Go.RowKit
set_option linter.unusedVariables false
set_option linter.unusedSimpArgs false
theorem index_runE (cs : Array Value) (k : Nat) (v : Value) (hk : k < 4) (hv : cs[k]? = some v) (W : World) : (Instr.index 102 (.agg cs) (.int .i64 (k : Int))).run Tryz.prog W = .ok v W := by
  have hu := run_underlying (P := Tryz.prog) Tryz.underlying102 W
  have hu2 := run_underlying (P := Tryz.prog) Tryz.underlying59 W
  have h8 : (k : Int) < 4 := by omega
  have hI : (Tryz.prog.info? 59).map (·.size) = some 1 := by kernel_rfl
  cases hq : Tryz.prog.info? 59 with
  | none => simp [hq] at hI
  | some i =>
    have hs : i.size = 1 := by simpa [hq] using hI
    simp [Instr.index, asIntOf, hu, part, isAgg, hu2, sizeOf, typeInfo, hq, hs, h8, hv]
    intro h; omega
set_option maxHeartbeats 1000000 in
theorem Bytes_e (x : Nat) (w : World) (hx : x < 115792089237316195423570985008687907853269984665640564039457584007913129639936) :
    Calls Tryz.prog 81 #[.agg (eA x)] w fun e w' => ∃ v, e = .returned v ∧ OwnB w' w.heap.size v (leB 32 x) ∧ Below w.heap.size w w' := by
  obtain ⟨i0, hi, hz0, hz1, hz2⟩ := info_parts infoU8
  obtain ⟨p0, p1, p2, p3, b0, b1, b2, b3, hxv, ex⟩ := words x hx
  have HIX := hid (fun (k : Nat) (hk : k < 4) (W : World) => index_runE (eA x) k _ hk (eA_get x k hk) W)
  rw [ex] at HIX ⊢
  clear hx hxv ex b0 b1 b2 b3
  go_enter Tryz.func81, Tryz.ntmps81
  go_wp2_with (at_make; refine wpList_make_own _ rfl _ _ 22 rfl w.heap.size 5 i0 (.int .u8 0) 1 Tryz.underlying22 hi hz0 hz1 _ _ _ 32 rfl rfl ?c1 ?c2 ?c3 ?c4 ?_)
  case c1 => omega
  case c2 => rw [hz2]; omega
  case c3 => unfold maxLen; omega
  case c4 => simp
  intro w1 hown hg
  have h0 : w1.heap[w.heap.size]? = some (.cells (e4 p0 p1 p2 p3) ET (0, 0)) := block_grown (blkN rfl (e4 p0 p1 p2 p3) ET) hg (by simp)
  have hb1 : Below w.heap.size w w1 := ((Below.refl _ _).alloc (Nat.le_refl _) _).grown hg (by simp) (fun _ h => by cases h)
  have c0 : w1.cell? ⟨w.heap.size, 0, none⟩ = some (.int .u64 (p0 : Int)) := cell_of h0 0 _ rfl
  have c1 : w1.cell? ⟨w.heap.size, 1, none⟩ = some (.int .u64 (p1 : Int)) := cell_of h0 1 _ rfl
  have c2 : w1.cell? ⟨w.heap.size, 2, none⟩ = some (.int .u64 (p2 : Int)) := cell_of h0 2 _ rfl
  have c3 : w1.cell? ⟨w.heap.size, 3, none⟩ = some (.int .u64 (p3 : Int)) := cell_of h0 3 _ rfl
  have HO := hid hown; have HB := hid hb1
  clear hown hg h0 hb1 hi hz0 hz1 hz2
  go_wp2
  clear c0 c1 c2 c3
  go_loopg [3, 17] 4 (fun g v i wr => ∃ k : Nat, k + g = 4 ∧ i = .int .i64 (k : Int) ∧ OwnB wr w.heap.size v (leB (8 * k) x) ∧ Below w.heap.size w wr)
  case atStart => exact ⟨0, by omega, rfl, HO.out, HB.out⟩
  case round =>
    clear HO HB
    obtain ⟨k, hk, rfl, ho, hb⟩ := hrel
    have HK := hid hk; have HO := hid ho; have HB := hid hb
    have hk4 : k ≤ 4 := by omega
    clear hk ho hb
    by_cases hlt : k < 4
    · have hx : (k : Int) < 4 := by omega
      have hix := HIX.out k hlt
      obtain ⟨q, hq⟩ : ∃ q, q = x / 18446744073709551616 ^ k % 18446744073709551616 := ⟨_, rfl⟩
      rw [← hq] at hix
      have HQ := hid hq
      clear hq
      go_wp2
      clear hix
      go_loopg [3, 6] 8 (fun g v i wr => ∃ j : Nat, j + g = 8 ∧ i = .int .i64 ((8 * j : Nat) : Int) ∧ OwnB wr w.heap.size v (leB (8 * k + j) x) ∧ Below w.heap.size w wr)
      case atStart => exact ⟨0, by omega, rfl, HO.out, HB.out⟩
      case round =>
        clear HO HB
        obtain ⟨j, hj, rfl, ho, hb⟩ := hrel
        have HJ := hid hj; have HB := hid hb
        have hj8 : j ≤ 8 := by omega
        clear hj hb
        by_cases hlt2 : j < 8
        · have hxj : ((8 * j : Nat) : Int) < 64 := by omega
          have hj0 : (0 : Int) ≤ ((8 * j : Nat) : Int) := by omega
          have hsz := HB.out.size
          obtain ⟨s, hs⟩ : ∃ s, s = 8 * j := ⟨_, rfl⟩
          rw [← hs] at hxj hj0 ⊢
          have HS := hid hs
          clear hs
          go_wp2_with (at_builtin; refine wpList_append_lie rfl (.tmp 24) (.tmp 29) 22 rfl w.heap.size 5 (.int .u8 0) 1 Tryz.underlying22 infoU8 rfl rfl (World.ownsRow.alloc ho _) rfl rfl (Lie.new1 _ _ _) ?d0 ?d1 ?d2 ?d3 ?_)
          case d0 => intro u hu; simp at hu; subst hu; rfl
          case d1 => rw [List.length_singleton]; unfold maxLen; simp; omega
          case d2 => rw [List.length_singleton]; simp; omega
          case d3 => simp; omega
          intro v2 w2 hown2 hg2 _
          have hO : OwnB w2 w.heap.size v2 (leB (8 * k + (j + 1)) x) := by
            rw [show 8 * k + (j + 1) = 8 * k + j + 1 by omega, leB_snoc]
            refine own_snoc hown2 (by simp) ?_
            rw [HS.out, shr_val, HQ.out, word_byte x k j hlt2]
          have hB2 : Below w.heap.size w w2 := (HB.out.alloc hsz _).grown hg2 (by simp; omega) (fun q h => own_lt (World.ownsRow.alloc ho (.cells #[.int .u8 ((q : Int) / 2 ^ s % 256)] 5)) q h)
          have HO2 := hid hO; have HB2 := hid hB2
          clear hown2 hg2 hO hB2 ho HB
          go_wp2
          have hj := HJ.out
          have hs := HS.out
          go_roundg (8 - j - 1)
          case measure => omega
          case rel => exact ⟨j + 1, by omega, by rw [hs]; go_num, HO2.out, HB2.out⟩
        · obtain rfl : j = 8 := by omega
          have HO2 := hid ho
          clear ho
          go_wp2
          have hk := HK.out
          go_roundg (4 - k - 1)
          case measure => omega
          case rel => exact ⟨k + 1, by omega, by go_num, HO2.out, HB.out⟩
    · obtain rfl : k = 4 := by omega
      go_wp2
      go_ret
      exact ⟨_, rfl, HO.out, HB.out⟩
end
end Go.Proofs.YtgehfbcagaaggaaGreatDoor
end
section
namespace Go.Proofs.YtgehfbcagaaggaaGreatDoor
open Go.RowKit
set_option linter.unusedVariables false
set_option linter.unusedSimpArgs false
theorem Square_e (x : Nat) (w : World) (hx : x < pp) :
    Calls Tryz.prog 111 #[.agg (eA x)] w fun e w' => e = .returned (.agg (eA (x * x % pp))) ∧ Below w.heap.size w w' := by
  have C1 := hid (fun W => Mul_e x x W hx hx)
  have F := hid (Fo.start w (eA x))
  have X1 := hid F.out.1
  clear hx
  go_enter Tryz.func111, Tryz.ntmps111
  go_wp2_with ((with_reducible refine wpList_load_row rfl ET (.tmp 1) rfl (w.heap.size) rfl ET (eA x) (0, 0) _ X1.out Tryz.underlying80 rfl (infoEA _) ?_))
  refine (C1.out _).mono ?_
  rintro e w1 ⟨rfl, hb⟩
  have F1 := hid (F.out.call hb)
  clear hb F
  clear X1
  have Z := hid F1.out.2.1
  go_wp2_with (with_reducible refine wpList_store_row rfl ET (.tmp 2) _ rfl (w.heap.size + 1) (eA (x * x % pp)) rfl rfl ET z4 Z.out (infoEA _) (sizeZA _) (oneEA _) ?_)
  refine bodyPost_ret (v := .agg (eA (x * x % pp))) (results_cell_row rfl _ _ (w.heap.size + 1) ET _ (0, 0) _ rfl (setRow_heap _ _ _ _ _ _ Z.out) Tryz.underlying80 rfl (infoEA _)) rfl ⟨rfl, ?_⟩
  exact belowRow F1.out.2.2.1 (by omega) _
end Go.Proofs.YtgehfbcagaaggaaGreatDoor
end
section
namespace Go.Proofs.YtgehfbcagaaggaaGreatDoor
section
open Go.RowKit
set_option linter.unusedVariables false
set_option linter.unusedSimpArgs false
theorem Neg_e (x : Nat) (w : World) (hx : x < pp) :
    Calls Tryz.prog 85 #[.agg (eA x)] w fun e w' => e = .returned (.agg (eA ((pp - x) % pp))) ∧ Below w.heap.size w w' := by
  have hp := pp_big
  have C1 := hid (fun W => missing_e x W (by omega))
  have C2 := hid (fun W => below_e (pp - x) W (by have := pp_pos; omega))
  have F := hid (Fo.start w (eA x))
  have X1 := hid F.out.1
  clear hx hp
  go_enter Tryz.func85, Tryz.ntmps85
  go_wp2_with ((with_reducible refine wpList_load_row rfl ET (.tmp 1) rfl (w.heap.size) rfl ET (eA x) (0, 0) _ X1.out Tryz.underlying80 rfl (infoEA _) ?_))
  refine (C1.out _).mono ?_
  rintro e w1 ⟨rfl, hb⟩
  have F1 := hid (F.out.call hb)
  clear hb F
  clear X1
  go_wp2_with fail
  refine (C2.out _).mono ?_
  rintro e w2 ⟨rfl, hb⟩
  have F2 := hid (F1.out.call hb)
  clear hb F1
  have Z := hid F2.out.2.1
  go_wp2_with (with_reducible refine wpList_store_row rfl ET (.tmp 2) _ rfl (w.heap.size + 1) (eA ((pp - x) % pp)) rfl rfl ET z4 Z.out (infoEA _) (sizeZA _) (oneEA _) ?_)
  refine bodyPost_ret (v := .agg (eA ((pp - x) % pp))) (results_cell_row rfl _ _ (w.heap.size + 1) ET _ (0, 0) _ rfl (setRow_heap _ _ _ _ _ _ Z.out) Tryz.underlying80 rfl (infoEA _)) rfl ⟨rfl, ?_⟩
  exact belowRow F2.out.2.2.1 (by omega) _
end
section
open Go.RowKit
set_option linter.unusedVariables false
set_option linter.unusedSimpArgs false
theorem Odd_e (x : Nat) (w : World) (hx : x < pp) :
    Calls Tryz.prog 82 #[.agg (eA x)] w fun e w' => e = .returned (.bool (decide (x % 2 = 1))) ∧ Below w.heap.size w w' := by
  obtain ⟨a, b, c, d, ha, hb, hc, hd, hxv, ex⟩ := words x (pp_lt hx)
  rw [ex]
  have h1 := and_one a ha
  have h2 : a % 2 = x % 2 := by omega
  rw [h2] at h1
  obtain ⟨r, hr⟩ : ∃ r, r = x % 2 := ⟨_, rfl⟩
  rw [← hr] at h1 ⊢
  have h3 : ((r : Int) == 1) = decide (r = 1) := by by_cases h : r = 1 <;> simp [h]; omega
  clear hx h2 hr hxv ha hb hc hd ex
  go_enter Tryz.func82, Tryz.ntmps82
  go_wp2
  go_ret
  exact ⟨rfl, (Below.refl _ _).alloc (Nat.le_refl _) _⟩
end
section
open Go.RowKit
set_option linter.unusedVariables false
set_option linter.unusedSimpArgs false
theorem Same_e (x y : Nat) (w : World) (hx : x < pp) (hy : y < pp) :
    Calls Tryz.prog 87 #[.agg (eA x), .agg (eA y)] w fun e w' => e = .returned (.bool (decide (x = y))) ∧ Below w.heap.size w w' := by
  obtain ⟨a, b, c, d, ha, hb, hc, hd, hxv, ex⟩ := words x (pp_lt hx)
  obtain ⟨a', b', c', d', ha', hb', hc', hd', hyv, ey⟩ := words y (pp_lt hy)
  rw [ex, ey]
  clear hx hy
  go_enter Tryz.func87, Tryz.ntmps87
  go_wp2
  all_goals go_ret
  all_goals refine ⟨?_, ((Below.refl _ _).alloc (Nat.le_refl _) _).alloc (by simp) _⟩
  all_goals first
    | (rw [decide_eq_true (by omega)]; rfl)
    | (rw [decide_eq_false (by omega)]; rfl)
end
end Go.Proofs.YtgehfbcagaaggaaGreatDoor
end
