/-
  Texts of this claim in one file: GcP, GcI.
-/
import Derived.Test.YtojlmlmjmlbjmaaPk3
import Derived.RangeFuncBox
import Derived.RangeFuncNested
import Derived.RangeFuncBound
import Derived.RangeFuncCalls
import Derived.RangeFuncLeaves
import Derived.Shelf.Abstract
import Derived.WalkKit
import Derived.OwnWalkIn
import Derived.TacticsInMore
import Derived.LoopNIn
import Derived.LoopIn
import Derived.Test.YtojlmlmjmlbjmaaPk22
section
namespace Go.Proofs.Ytojlmlmjmlbjmaa
set_option linter.unusedVariables false
set_option linter.unusedSimpArgs false
theorem bitsX_bit (a : Nat) : ∀ n i, (bitsX a n).testBit i = (decide (i < n) && a.testBit i)
  | 0, i => by simp [bitsX]
  | n + 1, i => by
    show (bitsX a n ^^^ (if a.testBit n then 2 ^ n else 0)).testBit i = _
    rw [Nat.testBit_xor, bitsX_bit a n i]
    by_cases h : i = n
    · subst h
      cases h1 : a.testBit i <;> simp [h1]
    · have h2 : (if a.testBit n = true then 2 ^ n else 0 : Nat).testBit i = false := by
        split
        · rw [Nat.testBit_two_pow]; simp; omega
        · simp
      rw [h2]
      by_cases h3 : i < n
      · rw [show decide (i < n) = true by simp [h3], show decide (i < n + 1) = true by simp; omega]; simp
      · rw [show decide (i < n) = false by simp; omega, show decide (i < n + 1) = false by simp; omega]; rfl
theorem bitsX_all {a n : Nat} (h : a < 2 ^ n) : bitsX a n = a := Nat.eq_of_testBit_eq fun i => by
  rw [bitsX_bit]
  by_cases hi : i < n
  · simp [hi]
  · rw [Nat.testBit_lt_two_pow (Nat.lt_of_lt_of_le h (Nat.pow_le_pow_right (by omega) (by omega : n ≤ i)))]; simp
/-- What is linear is known by its bits. -/
theorem linN_zero (n : Nat) (f : Nat → Nat) (h0 : f 0 = 0) (hx : ∀ a b, f (a ^^^ b) = f a ^^^ f b) (hb : ∀ i, i < n → f (2 ^ i) = 0) (a : Nat) (ha : a < 2 ^ n) : f a = 0 := by
  have key : ∀ i, i ≤ n → f (bitsX a i) = 0 := fun i => by
    induction i with
    | zero => intro _; exact h0
    | succ i ih =>
      intro hi
      show f (bitsX a i ^^^ (if a.testBit i then 2 ^ i else 0)) = 0
      rw [hx, ih (by omega)]
      split
      · rw [hb i (by omega)]; rfl
      · rw [h0]; rfl
  have := key n (Nat.le_refl _)
  rwa [bitsX_all ha] at this
theorem linN_same (n : Nat) (f g : Nat → Nat) (hf0 : f 0 = 0) (hg0 : g 0 = 0) (hf : ∀ a b, f (a ^^^ b) = f a ^^^ f b) (hg : ∀ a b, g (a ^^^ b) = g a ^^^ g b) (hb : ∀ i, i < n → f (2 ^ i) = g (2 ^ i)) (a : Nat) (ha : a < 2 ^ n) : f a = g a :=
  xor_eq_zero_iff' (linN_zero n (fun a => f a ^^^ g a) (by show f 0 ^^^ g 0 = 0; rw [hf0, hg0]; rfl) (fun a b => by show f (a ^^^ b) ^^^ g (a ^^^ b) = _; rw [hf, hg, xor_mid]) (fun i hi => by show f (2 ^ i) ^^^ g (2 ^ i) = 0; rw [hb i hi, Nat.xor_self]) a ha)
/-- x times a block. -/
def mulx (a : Nat) : Nat := if a.testBit 127 then (a <<< 1) ^^^ (2 ^ 128 + 135) else a <<< 1
theorem mulx_xor (a b : Nat) : mulx (a ^^^ b) = mulx a ^^^ mulx b := by
  unfold mulx
  rw [Nat.testBit_xor, Nat.shiftLeft_xor_distrib]
  generalize a <<< 1 = x; generalize b <<< 1 = y; generalize 2 ^ 128 + 135 = z
  cases a.testBit 127 <;> cases b.testBit 127 <;> simp [Nat.xor_assoc] <;> simp [Nat.xor_comm y z, xor_left y z, xor_back]
theorem mulx_lt {a : Nat} (ha : a < 2 ^ 128) : mulx a < 2 ^ 128 := by
  apply Nat.lt_pow_two_of_testBit
  intro i hi
  unfold mulx
  have h2 : ∀ i, 128 ≤ i → a.testBit i = false := fun i h => Nat.testBit_lt_two_pow (Nat.lt_of_lt_of_le ha (Nat.pow_le_pow_right (by omega) h))
  by_cases h : i = 128
  · subst h
    split
    · rename_i h1
      rw [Nat.testBit_xor, Nat.testBit_shiftLeft]
      simp [h1]; decide
    · rename_i h1
      rw [Nat.testBit_shiftLeft]
      simp [h1]
  · have h3 : (a <<< 1).testBit i = false := by rw [Nat.testBit_shiftLeft, h2 (i - 1) (by omega)]; simp
    split
    · rw [Nat.testBit_xor, h3, Nat.testBit_lt_two_pow (Nat.lt_of_lt_of_le (show 2 ^ 128 + 135 < 2 ^ 129 by decide) (Nat.pow_le_pow_right (by omega) (by omega : 129 ≤ i)))]; rfl
    · exact h3
/-- x to the power k times a block. -/
def xk (a : Nat) : Nat → Nat
  | 0 => a
  | k + 1 => mulx (xk a k)
theorem xk_xor (a b : Nat) : ∀ k, xk (a ^^^ b) k = xk a k ^^^ xk b k
  | 0 => rfl
  | k + 1 => by show mulx (xk (a ^^^ b) k) = mulx (xk a k) ^^^ mulx (xk b k); rw [xk_xor a b k, mulx_xor]
theorem xk_lt {a : Nat} (ha : a < 2 ^ 128) : ∀ k, xk a k < 2 ^ 128
  | 0 => ha
  | k + 1 => mulx_lt (xk_lt ha k)
theorem xk_add (a j : Nat) : ∀ k, xk (xk a j) k = xk a (j + k)
  | 0 => rfl
  | k + 1 => by show mulx (xk (xk a j) k) = mulx (xk a (j + k)); rw [xk_add a j k]
theorem xk_one : ∀ i, i < 128 → xk 1 i = 2 ^ i := by decide +kernel
/-- The product. -/
def gmk (a b : Nat) : Nat → Nat
  | 0 => 0
  | i + 1 => gmk a b i ^^^ (if b.testBit i then xk a i else 0)
def gm (a b : Nat) : Nat := gmk a b 128
theorem gmk_lt {a : Nat} (ha : a < 2 ^ 128) (b : Nat) : ∀ i, gmk a b i < 2 ^ 128
  | 0 => by show 0 < _; decide
  | i + 1 => Nat.xor_lt_two_pow (gmk_lt ha b i) (by
      split
      · exact xk_lt ha i
      · decide)
theorem gm_lt {a : Nat} (ha : a < 2 ^ 128) (b : Nat) : gm a b < 2 ^ 128 := gmk_lt ha b 128
theorem gmk_left (a a' b : Nat) : ∀ i, gmk (a ^^^ a') b i = gmk a b i ^^^ gmk a' b i
  | 0 => by simp [gmk]
  | i + 1 => by
    show gmk (a ^^^ a') b i ^^^ _ = (gmk a b i ^^^ _) ^^^ (gmk a' b i ^^^ _)
    rw [gmk_left a a' b i, xor_mid]
    congr 1
    split
    · exact xk_xor a a' i
    · rfl
theorem gmk_right (a b b' : Nat) : ∀ i, gmk a (b ^^^ b') i = gmk a b i ^^^ gmk a b' i
  | 0 => by simp [gmk]
  | i + 1 => by
    show gmk a (b ^^^ b') i ^^^ _ = (gmk a b i ^^^ _) ^^^ (gmk a b' i ^^^ _)
    rw [gmk_right a b b' i, xor_mid, Nat.testBit_xor]
    congr 1
    cases b.testBit i <;> cases b'.testBit i <;> simp
theorem gm_left (a a' b : Nat) : gm (a ^^^ a') b = gm a b ^^^ gm a' b := gmk_left a a' b 128
theorem gm_right (a b b' : Nat) : gm a (b ^^^ b') = gm a b ^^^ gm a b' := gmk_right a b b' 128
theorem gm_zero_left (b : Nat) : gm 0 b = 0 := by have h := gm_left 0 0 b; rw [Nat.xor_self, Nat.xor_self] at h; exact h
theorem gm_zero_right (a : Nat) : gm a 0 = 0 := by have h := gm_right a 0 0; rw [Nat.xor_self, Nat.xor_self] at h; exact h
theorem gmk_bit (a j : Nat) : ∀ i, gmk a (2 ^ j) i = if j < i then xk a j else 0
  | 0 => rfl
  | i + 1 => by
    show gmk a (2 ^ j) i ^^^ (if (2 ^ j).testBit i then xk a i else 0) = _
    rw [gmk_bit a j i, Nat.testBit_two_pow]
    by_cases h : j = i
    · subst h; simp
    · have hd : decide (j = i) = false := by simp [h]
      rw [hd]
      simp only [Bool.false_eq_true, if_false, Nat.xor_zero]
      by_cases h2 : j < i
      · rw [if_pos h2, if_pos (by omega)]
      · rw [if_neg h2, if_neg (by omega)]
theorem gm_bit (a j : Nat) (hj : j < 128) : gm a (2 ^ j) = xk a j := by unfold gm; rw [gmk_bit, if_pos hj]
theorem gm_comm {a b : Nat} (ha : a < 2 ^ 128) (hb : b < 2 ^ 128) : gm a b = gm b a :=
  linN_same 128 (fun a => gm a b) (fun a => gm b a) (gm_zero_left b) (gm_zero_right b) (fun x y => gm_left x y b) (fun x y => gm_right b x y)
    (fun i hi => linN_same 128 (fun b => gm (2 ^ i) b) (fun b => gm b (2 ^ i)) (gm_zero_right _) (gm_zero_left _) (fun x y => gm_right _ x y) (fun x y => gm_left x y _)
      (fun j hj => by show gm (2 ^ i) (2 ^ j) = gm (2 ^ j) (2 ^ i); rw [gm_bit _ _ hj, gm_bit _ _ hi, ← xk_one i hi, ← xk_one j hj, xk_add, xk_add, Nat.add_comm]) b hb) a ha
theorem gm_assoc {a b c : Nat} (ha : a < 2 ^ 128) (hb : b < 2 ^ 128) (hc : c < 2 ^ 128) : gm (gm a b) c = gm a (gm b c) :=
  linN_same 128 (fun a => gm (gm a b) c) (fun a => gm a (gm b c)) (by show gm (gm 0 b) c = 0; rw [gm_zero_left, gm_zero_left]) (gm_zero_left _) (fun x y => by show gm (gm (x ^^^ y) b) c = _; rw [gm_left, gm_left]) (fun x y => gm_left x y _)
    (fun i hi => linN_same 128 (fun b => gm (gm (2 ^ i) b) c) (fun b => gm (2 ^ i) (gm b c)) (by show gm (gm _ 0) c = 0; rw [gm_zero_right, gm_zero_left]) (by show gm _ (gm 0 c) = 0; rw [gm_zero_left, gm_zero_right]) (fun x y => by show gm (gm _ (x ^^^ y)) c = _; rw [gm_right, gm_left]) (fun x y => by show gm _ (gm (x ^^^ y) c) = _; rw [gm_left, gm_right])
      (fun j hj => linN_same 128 (fun c => gm (gm (2 ^ i) (2 ^ j)) c) (fun c => gm (2 ^ i) (gm (2 ^ j) c)) (gm_zero_right _) (by show gm _ (gm _ 0) = 0; rw [gm_zero_right, gm_zero_right]) (fun x y => gm_right _ x y) (fun x y => by show gm _ (gm _ (x ^^^ y)) = _; rw [gm_right, gm_right])
        (fun k hk => by
          show gm (gm (2 ^ i) (2 ^ j)) (2 ^ k) = gm (2 ^ i) (gm (2 ^ j) (2 ^ k))
          have hi2 : 2 ^ i < 2 ^ 128 := Nat.pow_lt_pow_right (by decide) hi
          have hj2 : 2 ^ j < 2 ^ 128 := Nat.pow_lt_pow_right (by decide) hj
          rw [gm_comm hi2 (gm_lt hj2 _), gm_bit _ _ hj, gm_bit _ _ hk, gm_bit _ _ hk, gm_bit _ _ hi, ← xk_one i hi, ← xk_one j hj, xk_add, xk_add, xk_add, xk_add]
          congr 1; omega) c hc) b hb) a ha
/-- The document: all products of powers .. -/
def cm (a b : Nat) : Nat → Nat
  | 0 => 0
  | i + 1 => cm a b i ^^^ (if a.testBit i then bitsX b 128 <<< i else 0)
/-- .. then what stands above 127 is taken off: n steps, from 254 down. -/
def rdN (p : Nat) : Nat → Nat
  | 0 => p
  | n + 1 => if (rdN p n).testBit (254 - n) then rdN p n ^^^ 2 ^ (254 - n) ^^^ 2 ^ (254 - n - 128) ^^^ 2 ^ (254 - n - 127) ^^^ 2 ^ (254 - n - 126) ^^^ 2 ^ (254 - n - 121) else rdN p n
theorem rdN_xor (a b : Nat) : ∀ n, rdN (a ^^^ b) n = rdN a n ^^^ rdN b n
  | 0 => rfl
  | n + 1 => by
    have h := rdN_xor a b n
    unfold rdN
    rw [h, Nat.testBit_xor]
    simp only [Nat.xor_assoc]
    generalize 2 ^ (254 - n) ^^^ (2 ^ (254 - n - 128) ^^^ (2 ^ (254 - n - 127) ^^^ (2 ^ (254 - n - 126) ^^^ 2 ^ (254 - n - 121)))) = z
    generalize rdN a n = x; generalize rdN b n = y
    cases x.testBit (254 - n) <;> cases y.testBit (254 - n) <;> simp [Nat.xor_assoc] <;> simp [Nat.xor_comm y z, xor_left y z, xor_back]
theorem bitsX_xor (a b : Nat) (n : Nat) : bitsX (a ^^^ b) n = bitsX a n ^^^ bitsX b n := Nat.eq_of_testBit_eq fun i => by
  rw [bitsX_bit, Nat.testBit_xor, Nat.testBit_xor, bitsX_bit, bitsX_bit]
  cases decide (i < n) <;> simp
theorem cm_left (a a' b : Nat) : ∀ i, cm (a ^^^ a') b i = cm a b i ^^^ cm a' b i
  | 0 => by simp [cm]
  | i + 1 => by
    show cm (a ^^^ a') b i ^^^ _ = (cm a b i ^^^ _) ^^^ (cm a' b i ^^^ _)
    rw [cm_left a a' b i, xor_mid, Nat.testBit_xor]
    congr 1
    cases a.testBit i <;> cases a'.testBit i <;> simp
theorem cm_right (a b b' : Nat) : ∀ i, cm a (b ^^^ b') i = cm a b i ^^^ cm a b' i
  | 0 => by simp [cm]
  | i + 1 => by
    show cm a (b ^^^ b') i ^^^ _ = (cm a b i ^^^ _) ^^^ (cm a b' i ^^^ _)
    rw [cm_right a b b' i, xor_mid, bitsX_xor]
    congr 1
    split
    · exact Nat.shiftLeft_xor_distrib
    · rfl
theorem cm_bit (j b : Nat) : ∀ i, cm (2 ^ j) b i = if j < i then bitsX b 128 <<< j else 0
  | 0 => rfl
  | i + 1 => by
    show cm (2 ^ j) b i ^^^ (if (2 ^ j).testBit i then bitsX b 128 <<< i else 0) = _
    rw [cm_bit j b i, Nat.testBit_two_pow]
    by_cases h : j = i
    · subst h; simp
    · have hd : decide (j = i) = false := by simp [h]
      rw [hd]
      simp only [Bool.false_eq_true, if_false, Nat.xor_zero]
      by_cases h2 : j < i
      · rw [if_pos h2, if_pos (by omega)]
      · rw [if_neg h2, if_neg (by omega)]
theorem rd_pow : ∀ m, m < 255 → rdN (2 ^ m) 127 = xk 1 m := by decide +kernel
theorem rdN_zero (n : Nat) : rdN 0 n = 0 := by have h := rdN_xor 0 0 n; rw [Nat.xor_self, Nat.xor_self] at h; exact h
theorem cm_zero_left (b i : Nat) : cm 0 b i = 0 := by have h := cm_left 0 0 b i; rw [Nat.xor_self, Nat.xor_self] at h; exact h
theorem cm_zero_right (a i : Nat) : cm a 0 i = 0 := by have h := cm_right a 0 0 i; rw [Nat.xor_self, Nat.xor_self] at h; exact h
/-- The document's product is the product. -/
theorem doc_gm {a b : Nat} (ha : a < 2 ^ 128) (hb : b < 2 ^ 128) : rdN (cm a b 128) 127 = gm a b :=
  linN_same 128 (fun a => rdN (cm a b 128) 127) (fun a => gm a b) (by show rdN (cm 0 b 128) 127 = 0; rw [cm_zero_left, rdN_zero]) (gm_zero_left b) (fun x y => by show rdN (cm (x ^^^ y) b 128) 127 = _; rw [cm_left, rdN_xor]) (fun x y => gm_left x y b)
    (fun i hi => linN_same 128 (fun b => rdN (cm (2 ^ i) b 128) 127) (fun b => gm (2 ^ i) b) (by show rdN (cm _ 0 128) 127 = 0; rw [cm_zero_right, rdN_zero]) (gm_zero_right _) (fun x y => by show rdN (cm _ (x ^^^ y) 128) 127 = _; rw [cm_right, rdN_xor]) (fun x y => gm_right _ x y)
      (fun j hj => by
        show rdN (cm (2 ^ i) (2 ^ j) 128) 127 = gm (2 ^ i) (2 ^ j)
        rw [cm_bit, if_pos hi, bitsX_all (Nat.pow_lt_pow_right (by decide) hj), Nat.shiftLeft_eq, ← Nat.pow_add, rd_pow (j + i) (by omega), gm_bit _ _ hj, ← xk_one i hi, xk_add, Nat.add_comm]) b hb) a ha
end Go.Proofs.Ytojlmlmjmlbjmaa
end
section
namespace Go.Proofs.Ytojlmlmjmlbjmaa
open Go Go.RowKit Go.Shelf
set_option linter.unusedVariables false
set_option linter.unusedSimpArgs false
attribute [local go_sem] Oper.semAt_some
/-- The k-th part of L bytes from b, o on. -/
def ckV (b o L k : Nat) : Value := .slice (some ⟨b, o + 16 * k, none⟩) (min 16 (L - 16 * k)) (min 16 (L - 16 * k))
/-- What the iterator reads stays. -/
def Kp2 (B1 B2 : Nat) (W W' : World) : Prop := W'.cell? ⟨B1, 0, none⟩ = W.cell? ⟨B1, 0, none⟩ ∧ W'.cell? ⟨B2, 0, none⟩ = W.cell? ⟨B2, 0, none⟩
theorem kp2_t {B1 B2 : Nat} {A B C : World} (h : Kp2 B1 B2 A B) (k : Kp2 B1 B2 B C) : Kp2 B1 B2 A C := ⟨k.1.trans h.1, k.2.trans h.2⟩
theorem kp2_b {B1 B2 : Nat} {w : World} (h1 : B1 < w.heap.size) (h2 : B2 < w.heap.size) (W : World) (l : Nat) (o o' : Obj) (hl : w.heap.size ≤ l) (h : W.heap[l]? = some o) (_ : o.isCells = false) (_ : o.isWalk = false) : Kp2 B1 B2 W (W.putObj l o') := by
  have k := belowK_b (w := w) (Nat.le_refl _) W l o o' hl h (by assumption) (by assumption)
  exact ⟨k.cell (p := ⟨B1, 0, none⟩) h1, k.cell (p := ⟨B2, 0, none⟩) h2⟩
set_option maxRecDepth 100000 in
set_option maxHeartbeats 2000000 in
theorem chunk1_in (n l B1 B2 b o L c : Nat) (A : Option Addr) (hA : 0 < L → A = some ⟨b, o, none⟩) (hL : L ≤ 1000) (hc : L ≤ c) (hc2 : c ≤ 9223372036854775807) (J Jx : List Nat → World → Prop) (B : Nat) (hJa : AbidesFrom B J)
    (hY : ∀ pre x W, J pre W → pre.length < (L + 15) / 16 → YieldAt Fence.wide (n - 1) Try.prog l #[ckV b o L x] W fun e W' =>
      (e = .returned (.bool true) ∧ J (pre ++ [x]) W' ∧ Kp2 B1 B2 W W') ∨ (e = .returned (.bool false) ∧ Jx (pre ++ [x]) W'))
    (W : World) (h1 : W.cell? ⟨B1, 0, none⟩ = some (.slice A L c)) (h2 : W.cell? ⟨B2, 0, none⟩ = some (.int .i64 16)) (h0 : J [] W) :
    CallsIn Fence.wide n Try.prog 42 #[.func (.yield l) #[] #[], .pointer (some ⟨B1, 0, none⟩), .pointer (some ⟨B2, 0, none⟩)] W fun e W' => (∃ v, e = .returned v) ∧
      ((∃ ys, ys = List.range ((L + 15) / 16) ∧ J ys W') ∨ (∃ pre, True ∧ Jx pre W')) := by
  refine callsIn_of_wp Try.func42 rfl trivial ?_ rfl
  simp only [Try.ntmps42, List.size_toArray, List.length_cons, List.length_nil, Nat.reduceAdd, Nat.reduceSub, Array.replicate_succ, Array.replicate_zero, List.push_toArray, List.append_toArray, List.nil_append, List.cons_append]
  gi_wp2
  gi_loopw [4] (fun i wr => ∃ k : Nat, k ≤ (L + 15) / 16 ∧ i = .int .i64 ((16 * k : Nat) : Int) ∧ J (List.range k) wr ∧ Kp2 B1 B2 W wr)
    (fun i _ => 16 * ((L + 15) / 16) - (intOf i).toNat)
  case atStart => exact ⟨0, Nat.zero_le _, rfl, h0, rfl, rfl⟩
  case round =>
    obtain ⟨k, hk, rfl, hJ, hK⟩ := hrel
    have r1 := hK.1.trans h1
    have r2 := hK.2.trans h2
    by_cases hlt : 16 * k < L
    · have hp : (List.range k).length < (L + 15) / 16 := by simp; omega
      obtain rfl := hA (by omega)
      obtain ⟨s, hs⟩ : ∃ s, s = 16 * k := ⟨_, rfl⟩
      have hsL : s < L := by omega
      have hx : (s : Int) < (L : Int) := by omega
      obtain ⟨m, hm⟩ : ∃ m, m = min 16 (L - s) := ⟨_, rfl⟩
      have hmin : (if ((L - s : Nat) : Int) < 16 then ((L - s : Nat) : Int) else 16) = (m : Int) := by split <;> omega
      have hs0 : (0 : Int) ≤ (s : Int) := by omega
      have hm0 : (0 : Int) ≤ (m : Int) := by omega
      have hck : ckV b o L k = .slice (some ⟨b, o + s, none⟩) m m := by rw [ckV, ← hs, ← hm]
      have hsm : IntKind.i64.wrap ((s : Int) + (m : Int)) = ((s + m : Nat) : Int) := (IntWalk.i64_in _ (by omega)).trans (by omega)
      have hle : s + m ≤ c := by omega
      have hnx : IntKind.i64.wrap ((s : Int) + 16) = ((s + 16 : Nat) : Int) := (IntWalk.i64_in _ (by omega)).trans (by omega)
      rw [← hs]
      have HS := hid hs; have HM := hid hm
      clear hs hm hlt
      gi_wp2
      refine wpIn_wide.2 ?_
      go_quiet (fail)
      rename_i K hK0
      obtain ⟨fn, tmps, assign, body, hy, hR⟩ := hY _ k (wr.drewN nq) (hJa _ _ _ none hJ ⟨rfl, rfl, rfl, Nat.le_refl _, fun _ _ _ => rfl⟩ (fun r e => by cases e)) hp
      rw [hck] at hy
      refine hK0 _ _ ?_
      gi_wp2
      refine ⟨fun h => (by cases h), hR.mono ?_⟩
      rintro e W3 (⟨rfl, hJ3, hk3⟩ | ⟨rfl, hJx3⟩)
      · have r2' : W3.cell? ⟨B2, 0, none⟩ = some (.int .i64 16) := hk3.2.trans r2
        gi_wp2
        go_roundw
        case rel => exact ⟨k + 1, (by have := HS.out; omega), by rw [HS.out]; rfl, by rw [List.range_succ]; exact hJ3, kp2_t hK hk3⟩
        case measure =>
          simp only [intOf, Int.toNat_natCast]
          have e1 : ((s : Int) + 16).toNat = s + 16 := by omega
          have e2 : s < 16 * ((L + 15) / 16) := by omega
          rw [e1]
          generalize 16 * ((L + 15) / 16) = q at *
          clear hck hsm hmin hnx
          omega
      · gi_wp2
        refine bodyPost_ret (results_none rfl _ _ _) rfl ?_
        exact ⟨⟨_, rfl⟩, .inr ⟨_, trivial, hJx3⟩⟩
    · obtain rfl : k = (L + 15) / 16 := by omega
      have hx : ¬ (((16 * ((L + 15) / 16) : Nat) : Int) < (L : Int)) := by omega
      gi_wp2
      go_end0
      exact ⟨⟨_, rfl⟩, .inl hJ⟩
theorem chunk_stops (n B1 B2 b o L c : Nat) (A : Option Addr) (hA : 0 < L → A = some ⟨b, o, none⟩) (hL : L ≤ 1000) (hc : L ≤ c) (hc2 : c ≤ 9223372036854775807) (w : World) (hB1 : B1 < w.heap.size) (hB2 : B2 < w.heap.size)
    (h1 : w.cell? ⟨B1, 0, none⟩ = some (.slice A L c)) (h2 : w.cell? ⟨B2, 0, none⟩ = some (.int .i64 16)) :
    SeqStopsK Fence.wide n Try.prog 42 #[.pointer (some ⟨B1, 0, none⟩), .pointer (some ⟨B2, 0, none⟩)] (fun x : Nat => #[ckV b o L x]) (Kp2 B1 B2) (fun ys => ys = List.range ((L + 15) / 16)) (fun _ => True) ((L + 15) / 16) w := fun l J Jx W hW hJa _ hY h0 =>
  chunk1_in n l B1 B2 b o L c A hA hL hc hc2 J Jx _ hJa hY W ((hW.cell (p := ⟨B1, 0, none⟩) hB1).trans h1) ((hW.cell (p := ⟨B2, 0, none⟩) hB2).trans h2) h0
theorem chunk_e (A : Option Addr) (L c : Nat) (w : World) :
    Calls Try.prog 31 #[.slice A L c, .int .i64 16] w fun e w' => e = .returned (.func (.func 42) #[] #[.pointer (some ⟨w.heap.size, 0, none⟩), .pointer (some ⟨w.heap.size + 1, 0, none⟩)]) ∧
      w' = (w.alloc (.cells #[.slice A L c] 22)).alloc (.cells #[.int .i64 16] 3) := by
  go_enter Try.func31, Try.ntmps31
  go_wp2
  go_ret
  exact ⟨rfl, rfl⟩
end Go.Proofs.Ytojlmlmjmlbjmaa
end
