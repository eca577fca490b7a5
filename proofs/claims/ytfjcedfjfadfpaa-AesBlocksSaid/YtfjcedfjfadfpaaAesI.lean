/-
  A block is told by its sealed one, plain.
-/
import Derived.Test.YtfjcedfjfadfpaaAesG
namespace Go.Proofs.Ytfjcedfjfadfpaa
set_option linter.unusedVariables false
set_option linter.unusedSimpArgs false
theorem tm_one_left {a : Nat} (ha : a < 256) : tmN 1 a = a := by rw [tm_comm (by decide) ha, tm_one a ha]
theorem tm_dbl {k a : Nat} (hk : k < 256) (ha : a < 256) {m : Nat} (hm : tmN k 2 = m) : tmN k (dblN a) = tmN m a := by
  rw [dblN_tm a ha, tm_comm ha (by decide), ← tm_assoc hk (by decide) ha, hm]
theorem five (k l m n o a : Nat) : tmN k a ^^^ tmN l a ^^^ tmN m a ^^^ tmN n a ^^^ tmN o a = tmN (k ^^^ l ^^^ m ^^^ n ^^^ o) a := by
  rw [tm_xor_left, tm_xor_left, tm_xor_left, tm_xor_left]
/-- The columns mixed back. -/
theorem mix_back {a b c d : Nat} (ha : a < 256) (hb : b < 256) (hc : c < 256) (hd : d < 256) :
    tmN 14 (dblN (a ^^^ b) ^^^ b ^^^ c ^^^ d) ^^^ tmN 11 (dblN (b ^^^ c) ^^^ c ^^^ d ^^^ a) ^^^ tmN 13 (dblN (c ^^^ d) ^^^ d ^^^ a ^^^ b) ^^^ tmN 9 (dblN (d ^^^ a) ^^^ a ^^^ b ^^^ c) = a := by
  rw [tm_xor_right 14, tm_xor_right 14, tm_xor_right 14, tm_xor_right 11, tm_xor_right 11, tm_xor_right 11, tm_xor_right 13, tm_xor_right 13, tm_xor_right 13, tm_xor_right 9, tm_xor_right 9, tm_xor_right 9,
    tm_dbl (by decide) (xor_b ha hb) (show tmN 14 2 = 28 by decide), tm_dbl (by decide) (xor_b hb hc) (show tmN 11 2 = 22 by decide), tm_dbl (by decide) (xor_b hc hd) (show tmN 13 2 = 26 by decide), tm_dbl (by decide) (xor_b hd ha) (show tmN 9 2 = 18 by decide),
    tm_xor_right 28, tm_xor_right 22, tm_xor_right 26, tm_xor_right 18]
  have e1 := five 28 11 13 18 9 a
  have e2 := five 28 14 22 13 9 b
  have e3 := five 14 22 11 26 9 c
  have e4 := five 14 11 26 13 18 d
  rw [show 28 ^^^ 11 ^^^ 13 ^^^ 18 ^^^ 9 = 1 by decide, tm_one_left ha] at e1
  rw [show 28 ^^^ 14 ^^^ 22 ^^^ 13 ^^^ 9 = 0 by decide, tm_zero_left] at e2
  rw [show 14 ^^^ 22 ^^^ 11 ^^^ 26 ^^^ 9 = 0 by decide, tm_zero_left] at e3
  rw [show 14 ^^^ 11 ^^^ 26 ^^^ 13 ^^^ 18 = 0 by decide, tm_zero_left] at e4
  have key : (tmN 28 a ^^^ tmN 11 a ^^^ tmN 13 a ^^^ tmN 18 a ^^^ tmN 9 a) ^^^ (tmN 28 b ^^^ tmN 14 b ^^^ tmN 22 b ^^^ tmN 13 b ^^^ tmN 9 b) ^^^ (tmN 14 c ^^^ tmN 22 c ^^^ tmN 11 c ^^^ tmN 26 c ^^^ tmN 9 c) ^^^ (tmN 14 d ^^^ tmN 11 d ^^^ tmN 26 d ^^^ tmN 13 d ^^^ tmN 18 d) = a := by
    rw [e1, e2, e3, e4, Nat.xor_zero, Nat.xor_zero, Nat.xor_zero]
  refine Eq.trans ?_ key
  generalize tmN 28 a = a1; generalize tmN 11 a = a2; generalize tmN 13 a = a3; generalize tmN 18 a = a4; generalize tmN 9 a = a5
  generalize tmN 28 b = b1; generalize tmN 14 b = b2; generalize tmN 22 b = b3; generalize tmN 13 b = b4; generalize tmN 9 b = b5
  generalize tmN 14 c = c1; generalize tmN 22 c = c2; generalize tmN 11 c = c3; generalize tmN 26 c = c4; generalize tmN 9 c = c5
  generalize tmN 14 d = d1; generalize tmN 11 d = d2; generalize tmN 26 d = d3; generalize tmN 13 d = d4; generalize tmN 18 d = d5
  ac_rfl
theorem mixN_inj {f g : Nat → Nat} (hf : ∀ i, f i < 256) (hg : ∀ i, g i < 256) (h : ∀ r, r < 4 → mixN f r = mixN g r) (r : Nat) (hr : r < 4) : f r = g r := by
  have key : ∀ f : Nat → Nat, (∀ i, f i < 256) → tmN 14 (mixN f r) ^^^ tmN 11 (mixN f ((r + 1) % 4)) ^^^ tmN 13 (mixN f ((r + 2) % 4)) ^^^ tmN 9 (mixN f ((r + 3) % 4)) = f r := fun f hf => by
    have h := mix_back (hf r) (hf ((r + 1) % 4)) (hf ((r + 2) % 4)) (hf ((r + 3) % 4))
    unfold mixN
    rw [show ((r + 1) % 4 + 1) % 4 = (r + 2) % 4 by omega, show ((r + 1) % 4 + 2) % 4 = (r + 3) % 4 by omega, show ((r + 1) % 4 + 3) % 4 = r by omega,
      show ((r + 2) % 4 + 1) % 4 = (r + 3) % 4 by omega, show ((r + 2) % 4 + 2) % 4 = r by omega, show ((r + 2) % 4 + 3) % 4 = (r + 1) % 4 by omega,
      show ((r + 3) % 4 + 1) % 4 = r by omega, show ((r + 3) % 4 + 2) % 4 = (r + 1) % 4 by omega, show ((r + 3) % 4 + 3) % 4 = (r + 2) % 4 by omega]
    exact h
  rw [← key f hf, ← key g hg, h r hr, h _ (Nat.mod_lt _ (by decide)), h _ (Nat.mod_lt _ (by decide)), h _ (Nat.mod_lt _ (by decide))]
theorem mixS_inj {S T : Nat → Nat} (hS : ∀ i, S i < 256) (hT : ∀ i, T i < 256) (h : ∀ i, i < 16 → mixS S i = mixS T i) (i : Nat) (hi : i < 16) : S i = T i := by
  have h1 := mixN_inj (f := fun r => S (4 * (i / 4) + r)) (g := fun r => T (4 * (i / 4) + r)) (fun r => hS _) (fun r => hT _) (fun r hr => by
    have := h (4 * (i / 4) + r) (by omega)
    unfold mixS at this
    rw [show (4 * (i / 4) + r) / 4 = i / 4 by omega, show (4 * (i / 4) + r) % 4 = r by omega] at this
    exact this) (i % 4) (Nat.mod_lt _ (by decide))
  rw [show 4 * (i / 4) + i % 4 = i by omega] at h1
  exact h1
theorem turbox_inj {S T : Nat → Nat} (hS : ∀ i, S i < 256) (hT : ∀ i, T i < 256) (h : ∀ i, i < 16 → tur (boxS S) i = tur (boxS T) i) (i : Nat) (hi : i < 16) : S i = T i := by
  have h1 := h (4 * ((i / 4 + 4 - i % 4) % 4) + i % 4) (by omega)
  unfold tur at h1
  rw [show 4 * (((4 * ((i / 4 + 4 - i % 4) % 4) + i % 4) / 4 + (4 * ((i / 4 + 4 - i % 4) % 4) + i % 4) % 4) % 4) + (4 * ((i / 4 + 4 - i % 4) % 4) + i % 4) % 4 = i by omega] at h1
  exact boxC_inj (hS i) (hT i) h1
theorem xor_cancel {a b c : Nat} (h : a ^^^ c = b ^^^ c) : a = b := by
  have e : ∀ x : Nat, x ^^^ c ^^^ c = x := fun x => by rw [Nat.xor_assoc, Nat.xor_self, Nat.xor_zero]
  rw [← e a, ← e b, h]
theorem rd_inj {ky S T : Nat → Nat} (hk : ∀ i, ky i < 256) (hS : ∀ i, S i < 256) (hT : ∀ i, T i < 256) : ∀ n, (∀ i, i < 16 → rd ky S n i = rd ky T n i) → ∀ i, i < 16 → S i = T i
  | 0, h, i, hi => xor_cancel (h i hi)
  | n + 1, h, i, hi => rd_inj hk hS hT n (turbox_inj (rd_lt hk hS n) (rd_lt hk hT n) (mixS_inj (tur_lt (boxS_lt (rd_lt hk hS n))) (tur_lt (boxS_lt (rd_lt hk hT n))) (fun i hi => xor_cancel (h i hi)))) i hi
theorem seal_inj {ky S T : Nat → Nat} (hk : ∀ i, ky i < 256) (hS : ∀ i, S i < 256) (hT : ∀ i, T i < 256) (h : ∀ i, i < 16 → sealN ky S i = sealN ky T i) (i : Nat) (hi : i < 16) : S i = T i :=
  rd_inj hk hS hT 9 (turbox_inj (rd_lt hk hS 9) (rd_lt hk hT 9) (fun i hi => xor_cancel (h i hi))) i hi
theorem blkL_inj {S T : Nat → Nat} (hS : ∀ i, S i < 256) (hT : ∀ i, T i < 256) (h : blkL S = blkL T) (i : Nat) (hi : i < 16) : S i = T i := by
  have h1 : (blkL S)[i]'(by rw [blkL_length]; exact hi) = (blkL T)[i]'(by rw [blkL_length]; exact hi) := by simp only [h]
  rw [blkL_at S i hi, blkL_at T i hi] at h1
  have h2 := congrArg UInt8.toNat h1
  have e1 := ofNat_b (hS i)
  have e2 := ofNat_b (hT i)
  omega
theorem bf_ext {xs ys : List UInt8} (hx : xs.length = 16) (hy : ys.length = 16) (h : ∀ i, i < 16 → bf xs i = bf ys i) : xs = ys := by
  apply List.ext_getElem (by rw [hx, hy])
  intro i h1 h2
  have := h i (by omega)
  rw [bf_at xs i h1, bf_at ys i h2] at this
  exact UInt8.toNat_inj.1 this
/-- One block, one sealed block. -/
theorem sealed_same (key one two : List UInt8) (h1 : one.length = 16) (h2 : two.length = 16) : (blkL (sealN (bf key) (bf one)) == blkL (sealN (bf key) (bf two))) = (one == two) := by
  by_cases h : one = two
  · subst h; simp
  · have hn : ¬ blkL (sealN (bf key) (bf one)) = blkL (sealN (bf key) (bf two)) := fun e => h (bf_ext h1 h2 (seal_inj (bf_lt key) (bf_lt one) (bf_lt two) (blkL_inj (sealN_lt (bf_lt key) (bf_lt one)) (sealN_lt (bf_lt key) (bf_lt two)) e)))
    rw [beq_eq_false_iff_ne.2 hn, beq_eq_false_iff_ne.2 h]
end Go.Proofs.Ytfjcedfjfadfpaa
