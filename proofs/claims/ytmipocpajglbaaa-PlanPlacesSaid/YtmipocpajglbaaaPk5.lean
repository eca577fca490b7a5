/-
  Texts of this claim in one file: PlP, PlQ.
-/
import Derived.Test.YtmipocpajglbaaaPk4
section
namespace Go.Proofs.Ytmipocpajglbaaa
open Go Go.RowKit
set_option linter.unusedVariables false
set_option linter.unusedSimpArgs false
/-- A place's part along a level's stride. -/
def along (L : Nat) (p : Int × Int) : Int := if L % 2 = 0 then p.2 else p.1
theorem plc_along (q l k L : Nat) : along L (plc q l (k + 1)) = along L (plc (q / 2) (l + 1) k) + (if (l + 1) % 2 = L % 2 then (if q % 2 = 0 then -(strN (l + 1) : Int) else (strN (l + 1) : Int)) else 0) := by
  rw [plc]
  unfold along
  have h1 : (l + 1) % 2 = 0 ∨ (l + 1) % 2 = 1 := by omega
  have h2 : L % 2 = 0 ∨ L % 2 = 1 := by omega
  rcases h1 with h1 | h1 <;> rcases h2 with h2 | h2 <;> simp [h1, h2]
theorem strN_pos (l : Nat) : (0 : Int) < (strN l : Int) := by unfold strN; have := Nat.two_pow_pos ((l - 1) / 2); omega
/-- A higher level of the same direction has a stride of twice as much, or more. -/
theorem strN_dvd {L l : Nat} (h1 : 1 ≤ L) (h2 : L < l) (h3 : l % 2 = L % 2) : (2 * (strN L : Int)) ∣ (strN l : Int) := by
  refine ⟨((2 ^ ((l - L) / 2 - 1) : Nat) : Int), ?_⟩
  have h : strN l = 2 * strN L * 2 ^ ((l - L) / 2 - 1) := by
    unfold strN
    rw [show 2 * 2 ^ ((L - 1) / 2) = 2 ^ ((L - 1) / 2 + 1) by rw [pow1], ← Nat.pow_add, show (L - 1) / 2 + 1 + ((l - L) / 2 - 1) = (l - 1) / 2 by omega]
  rw [h]
  simp
theorem along_even {L l : Nat} (q k : Nat) (h1 : 1 ≤ L) (h2 : L ≤ l) : (2 * (strN L : Int)) ∣ along L (plc q l k) := by
  induction k generalizing q l with
  | zero => unfold plc along; split <;> exact Int.dvd_zero _
  | succ k ih =>
    rw [plc_along]
    refine Int.dvd_add (ih (q / 2) (by omega)) ?_
    split
    · next h =>
      have h3 := strN_dvd h1 (show L < l + 1 by omega) h
      split
      · exact Int.dvd_neg.2 h3
      · exact h3
    · exact Int.dvd_zero _
theorem along_diff {L l : Nat} (q q' k : Nat) (h1 : 1 ≤ L) (h2 : L ≤ l) : (4 * (strN L : Int)) ∣ along L (plc q l k) - along L (plc q' l k) := by
  induction k generalizing q q' l with
  | zero => rw [show plc q l 0 = (0, 0) from rfl, show plc q' l 0 = (0, 0) from rfl, Int.sub_self]; exact Int.dvd_zero _
  | succ k ih =>
    rw [plc_along, plc_along]
    have h3 := ih (q / 2) (q' / 2) (l := l + 1) (by omega)
    obtain ⟨A, hA⟩ : ∃ A, A = along L (plc (q / 2) (l + 1) k) := ⟨_, rfl⟩
    obtain ⟨B, hB⟩ : ∃ A, A = along L (plc (q' / 2) (l + 1) k) := ⟨_, rfl⟩
    rw [← hA, ← hB] at h3 ⊢
    by_cases h : (l + 1) % 2 = L % 2
    · rw [if_pos h, if_pos h]
      obtain ⟨t, ht⟩ := strN_dvd h1 (show L < l + 1 by omega) h
      obtain ⟨S, hS⟩ : ∃ S : Int, S = (strN (l + 1) : Int) := ⟨_, rfl⟩
      rw [← hS] at ht ⊢
      have h4 : (4 * (strN L : Int)) ∣ 2 * S := ⟨t, by rw [ht, ← Int.mul_assoc, ← Int.mul_assoc]; rfl⟩
      have hc : ∀ u v : Int, (u = S ∨ u = -S) → (v = S ∨ v = -S) → (4 * (strN L : Int)) ∣ u - v := fun u v hu hv => by
        rcases hu with rfl | rfl <;> rcases hv with hv | hv
        · rw [hv, Int.sub_self]; exact Int.dvd_zero _
        · rw [hv, show u - -u = 2 * u by omega]; exact h4
        · rw [hv, show -S - S = -(2 * S) by omega]; exact Int.dvd_neg.2 h4
        · rw [hv, Int.sub_self]; exact Int.dvd_zero _
      have h5 : ∀ b : Nat, (if b % 2 = 0 then -S else S) = S ∨ (if b % 2 = 0 then -S else S) = -S := fun b => by
        split
        · exact .inr rfl
        · exact .inl rfl
      have h6 := hc _ _ (h5 q) (h5 q')
      have h7 := Int.dvd_add h3 h6
      rw [show A - B + ((if q % 2 = 0 then -S else S) - (if q' % 2 = 0 then -S else S)) = A + (if q % 2 = 0 then -S else S) - (B + (if q' % 2 = 0 then -S else S)) by omega] at h7
      exact h7
    · rw [if_neg h, if_neg h, Int.add_zero, Int.add_zero]; exact h3
theorem along_odd (q l k : Nat) : ¬ (2 * (strN (l + 1) : Int)) ∣ along (l + 1) (plc q l (k + 1)) := by
  intro h
  rw [plc_along, if_pos rfl] at h
  have h1 := along_even (L := l + 1) (l := l + 1) (q / 2) k (by omega) (Nat.le_refl _)
  have hp := strN_pos (l + 1)
  obtain ⟨S, hS⟩ : ∃ S : Int, S = (strN (l + 1) : Int) := ⟨_, rfl⟩
  rw [← hS] at h h1 hp
  have h2 : (2 * S) ∣ (if q % 2 = 0 then -S else S) := (Int.dvd_add_right h1).1 h
  have h3 : (2 * S) ∣ S := by
    split at h2
    · exact Int.dvd_neg.1 h2
    · exact h2
  have := Int.le_of_dvd hp h3
  omega
theorem plc_inj {q l k q' l' k' : Nat} (h : plc q l k = plc q' l' k') (hh : l + k = l' + k') (hq : q < 2 ^ k) (hq' : q' < 2 ^ k') : q = q' ∧ l = l' := by
  induction k generalizing q l q' l' k' with
  | zero =>
    cases k' with
    | zero => exact ⟨by simp at hq hq'; omega, by omega⟩
    | succ k' =>
      exfalso
      refine along_odd q' l' k' ?_
      rw [← h]
      unfold plc along
      split <;> exact Int.dvd_zero _
  | succ k ih =>
    cases k' with
    | zero =>
      exfalso
      refine along_odd q l k ?_
      rw [h]
      unfold plc along
      split <;> exact Int.dvd_zero _
    | succ k' =>
      rcases Nat.lt_trichotomy l l' with hl | hl | hl
      · exfalso
        refine along_odd q l k ?_
        rw [h]
        exact along_even q' (k' + 1) (by omega) hl
      · subst hl
        obtain rfl : k = k' := by omega
        have h1 := congrArg (along (l + 1)) h
        rw [plc_along, plc_along, if_pos rfl, if_pos rfl] at h1
        have h2 := along_diff (L := l + 1) (l := l + 1) (q / 2) (q' / 2) k (by omega) (Nat.le_refl _)
        have hp := strN_pos (l + 1)
        have h3 := congrArg (along l) h
        rw [plc_along, plc_along, if_neg (by omega), if_neg (by omega), Int.add_zero, Int.add_zero] at h3
        obtain ⟨S, hS⟩ : ∃ S : Int, S = (strN (l + 1) : Int) := ⟨_, rfl⟩
        rw [← hS] at h1 h2 hp
        have hpar : q % 2 = q' % 2 := by
          have hno : ∀ d : Int, d = 2 * S ∨ d = -(2 * S) → ¬ (4 * S) ∣ d := fun d hd hdv => by
            rcases hd with rfl | rfl
            · have := Int.le_of_dvd (by omega) hdv; omega
            · have := Int.le_of_dvd (by omega) (Int.dvd_neg.1 hdv); omega
          rcases Nat.mod_two_eq_zero_or_one q with a | a <;> rcases Nat.mod_two_eq_zero_or_one q' with b | b
          · omega
          · rw [if_pos a, if_neg (by omega)] at h1
            exact absurd h2 (hno _ (.inl (by omega)))
          · rw [if_neg (by omega), if_pos b] at h1
            exact absurd h2 (hno _ (.inr (by omega)))
          · omega
        rw [hpar] at h1
        have h4 : along (l + 1) (plc (q / 2) (l + 1) k) = along (l + 1) (plc (q' / 2) (l + 1) k) := by omega
        have h5 : plc (q / 2) (l + 1) k = plc (q' / 2) (l + 1) k := by
          unfold along at h3 h4
          by_cases hl2 : l % 2 = 0
          · rw [if_pos hl2, if_pos hl2] at h3
            rw [if_neg (by omega), if_neg (by omega)] at h4
            exact Prod.ext h4 h3
          · rw [if_neg hl2, if_neg hl2] at h3
            rw [if_pos (by omega), if_pos (by omega)] at h4
            exact Prod.ext h3 h4
        have h6 := ih h5 (by omega) (by rw [pow1] at hq; omega) (by rw [pow1] at hq'; omega)
        exact ⟨by omega, rfl⟩
      · exfalso
        refine along_odd q' l' k' ?_
        rw [← h]
        exact along_even q (k + 1) (by omega) hl
/-- Counted from the other end: the place's opposite. -/
theorem mirror_nd {q l k : Nat} (hq : q < 2 ^ k) : nd (2 ^ k - 1 - q) l + nd q l = 2 * 2 ^ (l + k) - 2 := by
  unfold nd
  have h1 : (2 ^ k - 1 - q) * 2 ^ (l + 1) + q * 2 ^ (l + 1) = (2 ^ k - 1) * 2 ^ (l + 1) := by rw [← Nat.add_mul, show 2 ^ k - 1 - q + q = 2 ^ k - 1 by omega]
  have h2 : (2 ^ k - 1) * 2 ^ (l + 1) + 2 ^ (l + 1) = 2 * 2 ^ (l + k) := by
    have h3 : (2 ^ k - 1) * 2 ^ (l + 1) + 2 ^ (l + 1) = (2 ^ k - 1 + 1) * 2 ^ (l + 1) := by rw [Nat.add_mul, Nat.one_mul]
    rw [h3, show 2 ^ k - 1 + 1 = 2 ^ k by omega, ← Nat.pow_add, show k + (l + 1) = l + k + 1 by omega, pow1]
  have h4 := Nat.one_le_two_pow (n := l)
  have h5 := pow1 l
  omega
theorem plc_neg (q l k : Nat) (hq : q < 2 ^ k) : plc (2 ^ k - 1 - q) l k = (-(plc q l k).1, -(plc q l k).2) := by
  induction k generalizing q l with
  | zero => rfl
  | succ k ih =>
    rw [pow1] at hq ⊢
    have h1 := ih (q / 2) (l + 1) (by omega)
    have h2 : (2 * 2 ^ k - 1 - q) / 2 = 2 ^ k - 1 - q / 2 := by omega
    have h3 : (2 * 2 ^ k - 1 - q) % 2 = 0 ↔ ¬ q % 2 = 0 := by omega
    rw [plc, plc, h2, h1]
    obtain ⟨A, hA⟩ : ∃ A, A = plc (q / 2) (l + 1) k := ⟨_, rfl⟩
    rw [← hA]
    obtain ⟨S, hS⟩ : ∃ S : Int, S = (strN (l + 1) : Int) := ⟨_, rfl⟩
    rw [← hS]
    have e1 : (if (2 * 2 ^ k - 1 - q) % 2 = 0 then -S else S) = -(if q % 2 = 0 then -S else S) := by
      by_cases h : q % 2 = 0
      · rw [if_neg (fun hc => h3.1 hc h), if_pos h]; omega
      · rw [if_pos (h3.2 h), if_neg h]
    rw [e1]
    obtain ⟨T, hT⟩ : ∃ T : Int, T = (if q % 2 = 0 then -S else S) := ⟨_, rfl⟩
    rw [← hT]
    by_cases hl : (l + 1) % 2 = 0
    · rw [if_pos hl, if_pos hl]
      exact Prod.ext rfl (by show -A.2 + -T = -(A.2 + T); omega)
    · rw [if_neg hl, if_neg hl]
      exact Prod.ext (by show -A.1 + -T = -(A.1 + T); omega) rfl
end Go.Proofs.Ytmipocpajglbaaa
end
section
namespace Go.Proofs.Ytmipocpajglbaaa
open Go Go.RowKit
set_option linter.unusedVariables false
set_option linter.unusedSimpArgs false
theorem atF_node {q l k : Nat} (hq : q < 2 ^ k) (hk : l + k ≤ 16) : atF (plc q l k) ((2 ^ (l + k) : Nat) : Int) = some (nd q l) := by
  have h1 := hi_bound (l := l) hq
  have h2 := le_hi q l
  refine atF_some (placeZ_nd hq hk) (by omega) fun j hj hp => ?_
  have hin : inT (j : Int) ((2 ^ (l + k) : Nat) : Int) := inT_of (fitB_pow hk) (by omega) (by omega)
  obtain ⟨q', l', k', hq', hk', hj', he⟩ := hin
  have he' : l + k = l' + k' := pow2_inj (by omega)
  rw [he', hj', placeZ_nd hq' hk'] at hp
  obtain ⟨rfl, rfl⟩ := plc_inj hp he'.symm hq' hq
  omega
theorem atZ_node {q l k : Nat} (hq : q < 2 ^ k) (hk : l + k ≤ 16) : atZ (plc q l k) ((2 ^ (l + k) : Nat) : Int) = (nd q l : Int) ∧ atB (plc q l k) ((2 ^ (l + k) : Nat) : Int) = true := by
  unfold atZ atB
  rw [fitB_pow hk, if_pos rfl, atF_node hq hk]
  exact ⟨rfl, rfl⟩
theorem placeZ_inj {x y n : Int} (hx : inB x n = true) (hy : inB y n = true) (h : placeZ x n = placeZ y n) : x = y := by
  obtain ⟨q, l, k, hq, hk, rfl, rfl⟩ := inB_iff.1 hx
  obtain ⟨q', l', k', hq', hk', rfl, he⟩ := inB_iff.1 hy
  have he' : l + k = l' + k' := pow2_inj (by omega)
  rw [placeZ_nd hq hk, he', placeZ_nd hq' hk'] at h
  obtain ⟨rfl, rfl⟩ := plc_inj h he' hq hq'
  rfl
theorem sq_zero {u v : Int} (h : u * u + v * v = 0) : u = 0 ∧ v = 0 := by
  have h1 : (u.natAbs : Int) * (u.natAbs : Int) = u * u := by rw [← Int.natCast_mul, Int.natAbs_mul_self]
  have h2 : (v.natAbs : Int) * (v.natAbs : Int) = v * v := by rw [← Int.natCast_mul, Int.natAbs_mul_self]
  rw [← h1, ← h2, ← Int.natCast_mul, ← Int.natCast_mul, ← Int.natCast_add] at h
  have h3 : u.natAbs * u.natAbs = 0 := by omega
  have h4 : v.natAbs * v.natAbs = 0 := by omega
  have h5 := Nat.mul_eq_zero.1 h3
  have h6 := Nat.mul_eq_zero.1 h4
  omega
theorem gap_zero {x y n : Int} (hx : inB x n = true) (hy : inB y n = true) : gpZ x y n = 0 ↔ x = y := by
  unfold gpZ gapZ
  rw [hx, hy, Bool.and_self, if_pos rfl]
  constructor
  · intro h
    obtain ⟨h1, h2⟩ := sq_zero h
    exact placeZ_inj hx hy (Prod.ext (by omega) (by omega))
  · rintro rfl
    rw [Int.sub_self, Int.sub_self]; rfl
/-- A leaf's index, turned by a quarter: pairs of digits change places, one of each turned over. -/
def trnQ (q : Nat) : Nat → Nat
  | 0 => 0
  | t + 1 => 4 * trnQ (q / 4) t + (2 * (q % 2) + (1 - q / 2 % 2))
theorem trnQ_lt (q t : Nat) : trnQ q t < 2 ^ (2 * t) := by
  induction t generalizing q with
  | zero => simp [trnQ]
  | succ t ih =>
    have h := ih (q / 4)
    rw [trnQ, show 2 * (t + 1) = 2 * t + 1 + 1 by omega, pow1, pow1]
    omega
theorem plc_two (q l t : Nat) (hl : l % 2 = 0) : plc q l (2 * (t + 1)) = ((plc (q / 4) (l + 2) (2 * t)).1 + (if q % 2 = 0 then -(strN (l + 1) : Int) else (strN (l + 1) : Int)), (plc (q / 4) (l + 2) (2 * t)).2 + (if q / 2 % 2 = 0 then -(strN (l + 1) : Int) else (strN (l + 1) : Int))) := by
  have hs : strN (l + 1 + 1) = strN (l + 1) := by unfold strN; congr 1; omega
  rw [show 2 * (t + 1) = 2 * t + 1 + 1 by omega, plc, if_neg (by omega), plc, if_pos (by omega), hs, Nat.div_div_eq_div_mul]
theorem plc_turn (q l t : Nat) (hl : l % 2 = 0) : plc (trnQ q t) l (2 * t) = (-(plc q l (2 * t)).2, (plc q l (2 * t)).1) := by
  induction t generalizing q l with
  | zero => rfl
  | succ t ih =>
    have h1 := ih (q / 4) (l + 2) (by omega)
    have e1 : trnQ q (t + 1) / 4 = trnQ (q / 4) t := by rw [trnQ]; omega
    have e2 : trnQ q (t + 1) % 2 = 1 - q / 2 % 2 := by rw [trnQ]; omega
    have e3 : trnQ q (t + 1) / 2 % 2 = q % 2 := by rw [trnQ]; omega
    rw [plc_two _ _ _ hl, plc_two q _ _ hl, e1, e2, e3, h1]
    obtain ⟨A, hA⟩ : ∃ A, A = plc (q / 4) (l + 2) (2 * t) := ⟨_, rfl⟩
    rw [← hA]
    obtain ⟨S, hS⟩ : ∃ S : Int, S = (strN (l + 1) : Int) := ⟨_, rfl⟩
    rw [← hS]
    refine Prod.ext ?_ rfl
    show -A.2 + (if 1 - q / 2 % 2 = 0 then -S else S) = -(A.2 + (if q / 2 % 2 = 0 then -S else S))
    by_cases h : q / 2 % 2 = 0
    · rw [if_neg (by omega), if_pos h]; omega
    · rw [if_pos (by omega), if_neg h]; omega
/-- Turned some times: a leaf again. -/
theorem plc_rot (q t k : Nat) (hq : q < 2 ^ (2 * t)) : ∃ r, r < 2 ^ (2 * t) ∧ rotN k (plc q 0 (2 * t)) = plc r 0 (2 * t) := by
  induction k with
  | zero => exact ⟨q, hq, rfl⟩
  | succ k ih =>
    obtain ⟨r, hr, he⟩ := ih
    exact ⟨trnQ r t, trnQ_lt r t, by rw [plc_turn _ _ _ rfl, ← he]; rfl⟩
theorem rotN_add (a b : Nat) (p : Int × Int) : rotN a (rotN b p) = rotN (a + b) p := by
  induction a with
  | zero => rw [Nat.zero_add]; rfl
  | succ a ih => rw [Nat.succ_add]; show (-(rotN a (rotN b p)).2, _) = _; rw [ih]; rfl
theorem rotN_two (p : Int × Int) : rotN 2 p = (-p.1, -p.2) := rfl
theorem rotN_four (p : Int × Int) : rotN 4 p = p := by show (- -p.1, - -p.2) = p; rw [Int.neg_neg, Int.neg_neg]
/-- What Turn must answer. -/
def trnZ (x n q : Int) : Int := if inB x n = true then atZ (rotN (q % 4).toNat (placeZ x n)) n else 0
def trnB (x n q : Int) : Bool := inB x n && atB (rotN (q % 4).toNat (placeZ x n)) n
theorem trn_half {q l k : Nat} (hq : q < 2 ^ k) (hk : l + k ≤ 16) : trnZ (nd q l : Int) ((2 ^ (l + k) : Nat) : Int) 2 = (nd (2 ^ k - 1 - q) l : Int) ∧ trnB (nd q l : Int) ((2 ^ (l + k) : Nat) : Int) 2 = true := by
  unfold trnZ trnB
  have h := atZ_node (q := 2 ^ k - 1 - q) (l := l) (k := k) (by have := Nat.two_pow_pos k; omega) hk
  rw [inB_nd hq hk, if_pos rfl, show ((2 : Int) % 4).toNat = 2 by decide, rotN_two, placeZ_nd hq hk, ← plc_neg q l k hq, h.1, h.2]
  exact ⟨rfl, rfl⟩
theorem trn_none {q l k : Nat} (hq : q < 2 ^ k) (hk : l + k ≤ 16) : trnZ (nd q l : Int) ((2 ^ (l + k) : Nat) : Int) 4 = (nd q l : Int) ∧ trnB (nd q l : Int) ((2 ^ (l + k) : Nat) : Int) 4 = true := by
  unfold trnZ trnB
  have h := atZ_node hq hk
  rw [inB_nd hq hk, if_pos rfl, show ((4 : Int) % 4).toNat = 0 by decide, placeZ_nd hq hk]
  exact h
theorem trn_leaf {q t : Nat} (z : Int) (hq : q < 2 ^ (2 * t)) (ht : 2 * t ≤ 16) : ∃ r, r < 2 ^ (2 * t) ∧ trnZ (nd q 0 : Int) ((2 ^ (2 * t) : Nat) : Int) z = (nd r 0 : Int) ∧ trnB (nd q 0 : Int) ((2 ^ (2 * t) : Nat) : Int) z = true ∧ plc r 0 (2 * t) = rotN (z % 4).toNat (plc q 0 (2 * t)) := by
  obtain ⟨r, hr, he⟩ := plc_rot q t (z % 4).toNat hq
  have h := atZ_node (l := 0) hr (by omega)
  have h2 := inB_nd (l := 0) hq (by omega)
  have h3 := placeZ_nd (l := 0) hq (by omega)
  rw [Nat.zero_add] at h h2 h3
  refine ⟨r, hr, ?_, ?_, he.symm⟩
  · unfold trnZ; rw [h2, if_pos rfl, h3, he]; exact h.1
  · unfold trnB; rw [h2, h3, he]; exact h.2
/-- Three quarters, and one more. -/
theorem trn_back {q t : Nat} (hq : q < 2 ^ (2 * t)) (ht : 2 * t ≤ 16) : ∃ r, r < 2 ^ (2 * t) ∧ trnZ (nd q 0 : Int) ((2 ^ (2 * t) : Nat) : Int) 3 = (nd r 0 : Int) ∧ trnB (nd q 0 : Int) ((2 ^ (2 * t) : Nat) : Int) 3 = true ∧
    trnZ (nd r 0 : Int) ((2 ^ (2 * t) : Nat) : Int) 1 = (nd q 0 : Int) ∧ trnB (nd r 0 : Int) ((2 ^ (2 * t) : Nat) : Int) 1 = true := by
  obtain ⟨r, hr, h1, h2, h3⟩ := trn_leaf 3 hq ht
  obtain ⟨s, hs, h4, h5, h6⟩ := trn_leaf 1 hr ht
  refine ⟨r, hr, h1, h2, ?_, h5⟩
  rw [h4]
  rw [h3, rotN_add, show ((1 : Int) % 4).toNat + ((3 : Int) % 4).toNat = 4 by decide, rotN_four] at h6
  obtain ⟨rfl, -⟩ := plc_inj h6 rfl hs hq
  rfl
end Go.Proofs.Ytmipocpajglbaaa
end
