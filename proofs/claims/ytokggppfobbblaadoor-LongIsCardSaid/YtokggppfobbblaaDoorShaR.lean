/-
  SHA-256 in numbers, plain: blocks one behind the other; what is written part by part.
-/
import Derived.Test.YtokggppfobbblaaDoorShaQ
namespace Go.Proofs.YtokggppfobbblaaDoor
set_option linter.unusedVariables false
set_option linter.unusedSimpArgs false

theorem blocksN_split (K : List Nat) (a c : Nat) (s : St) (m : List UInt8) : blocksN K (a + c) s m = blocksN K c (blocksN K a s m) (m.drop (64 * a)) := by
  induction a generalizing s m with
  | zero => simp [blocksN]
  | succ a ih =>
    rw [show a + 1 + c = (a + c) + 1 by omega, blocksN, ih]
    conv => rhs; rw [blocksN]
    rw [List.drop_drop, show 64 + 64 * a = 64 * (a + 1) by omega]
theorem blocksN_prefix (K : List Nat) (a : Nat) (s : St) (m t : List UInt8) (h : 64 * a ≤ m.length) : blocksN K a s (m ++ t) = blocksN K a s m := by
  induction a generalizing s m with
  | zero => rfl
  | succ a ih =>
    rw [blocksN, blocksN, List.take_append_of_le_length (by omega), List.drop_append_of_le_length (by omega), ih _ _ (by rw [List.length_drop]; omega)]
theorem blocksN_next (K : List Nat) (k : Nat) (s : St) (m : List UInt8) : blocksN K (k + 1) s m = mixN K (blocksN K k s m) ((m.drop (64 * k)).take 64) := by
  rw [blocksN_split K k 1, blocksN, blocksN]

/-- What is written: the state behind the whole blocks. -/
def stOf (all : List UInt8) : St := blocksN kTab (all.length / 64) iv all
/-- What is behind the whole blocks. -/
def tailOf (all : List UInt8) : List UInt8 := all.drop (64 * (all.length / 64))
theorem tailOf_length (all : List UInt8) : (tailOf all).length = all.length % 64 := by
  rw [tailOf, List.length_drop]; omega
theorem blocksN_okay (K : List Nat) (k : Nat) (s : St) (m : List UInt8) (h : s.ok) : (blocksN K k s m).ok := by
  induction k generalizing s m with
  | zero => exact h
  | succ k ih => exact ih _ _ (mixN_ok K s _)
theorem stOf_ok (all : List UInt8) : (stOf all).ok := blocksN_okay _ _ _ _ iv_ok
theorem stOf_short (all : List UInt8) (h : all.length < 64) : stOf all = iv := by
  rw [stOf, Nat.div_eq_of_lt h]; rfl
theorem tailOf_short (all : List UInt8) (h : all.length < 64) : tailOf all = all := by
  rw [tailOf, Nat.div_eq_of_lt h]; simp
/-- Behind q whole blocks of all that is there, through those of the rest. -/
theorem st_rest (q : Nat) (m : List UInt8) (h : 64 * q ≤ m.length) : blocksN kTab ((m.drop (64 * q)).length / 64) (blocksN kTab q iv m) (m.drop (64 * q)) = stOf m := by
  rw [stOf, ← blocksN_split, List.length_drop]
  congr 1
  omega
theorem tail_rest (q : Nat) (m : List UInt8) (h : 64 * q ≤ m.length) : (m.drop (64 * q)).drop (64 * ((m.drop (64 * q)).length / 64)) = tailOf m := by
  rw [tailOf, List.drop_drop, List.length_drop]
  congr 1
  omega
/-- Nothing stood behind the whole blocks. -/
theorem whole_state (all b : List UInt8) (h : all.length % 64 = 0) : stOf all = blocksN kTab (all.length / 64) iv (all ++ b) ∧ b = (all ++ b).drop (64 * (all.length / 64)) ∧ 64 * (all.length / 64) ≤ (all ++ b).length := by
  refine ⟨?_, ?_, by simp; omega⟩
  · rw [stOf, blocksN_prefix _ _ _ _ _ (by omega)]
  · rw [show 64 * (all.length / 64) = all.length by omega, List.drop_left]
/-- The block that is filled up. -/
theorem fill_state (all b : List UInt8) (h : 64 ≤ all.length % 64 + b.length) :
    mixN kTab (stOf all) (tailOf all ++ b.take (64 - all.length % 64)) = blocksN kTab (all.length / 64 + 1) iv (all ++ b) ∧ b.drop (64 - all.length % 64) = (all ++ b).drop (64 * (all.length / 64 + 1)) ∧ 64 * (all.length / 64 + 1) ≤ (all ++ b).length := by
  have hl := tailOf_length all
  refine ⟨?_, ?_, by simp; omega⟩
  · rw [blocksN_next, blocksN_prefix _ _ _ _ _ (by omega), List.drop_append_of_le_length (by omega)]
    rw [show all.drop (64 * (all.length / 64)) = tailOf all from rfl, List.take_append, hl, stOf]
    rw [List.take_of_length_le (l := tailOf all) (by omega)]
  · have e : all.drop (64 * (all.length / 64 + 1)) = [] := List.drop_eq_nil_of_le (by omega)
    rw [List.drop_append, e, List.nil_append]
    congr 1
    omega
/-- A part that doesn't fill the block up. -/
theorem part_state (all b : List UInt8) (h : all.length % 64 + b.length < 64) : stOf (all ++ b) = stOf all ∧ tailOf (all ++ b) = tailOf all ++ b := by
  have e : (all ++ b).length / 64 = all.length / 64 := by rw [List.length_append]; omega
  refine ⟨?_, ?_⟩
  · rw [stOf, stOf, e, blocksN_prefix _ _ _ _ _ (by omega)]
  · rw [tailOf, tailOf, e, List.drop_append_of_le_length (by omega)]

/-- The digest. -/
def closeS (s : St) (r : List UInt8) (n : Nat) : St := blocksN kTab ((padN r n (beBytes 8 (8 * n))).length / 64) s (padN r n (beBytes 8 (8 * n)))
def shaB (all : List UInt8) : List UInt8 := (closeS (stOf all) (tailOf all) all.length).bytes
theorem shaB_length (all : List UInt8) : (shaB all).length = 32 := rfl
/-- .. of all that stands there with what is put behind it. -/
theorem shaB_whole (all : List UInt8) : shaB all = (blocksN kTab ((padN all all.length (beBytes 8 (8 * all.length))).length / 64) iv (padN all all.length (beBytes 8 (8 * all.length)))).bytes := by
  rw [shaB, closeS]
  congr 1
  have h1 : padN all all.length (beBytes 8 (8 * all.length)) = all.take (64 * (all.length / 64)) ++ padN (tailOf all) all.length (beBytes 8 (8 * all.length)) := by
    simp only [padN, tailOf, ← List.append_assoc, List.take_append_drop]
  have h2 : (all.take (64 * (all.length / 64))).length = 64 * (all.length / 64) := by rw [List.length_take]; omega
  have h3 : (padN all all.length (beBytes 8 (8 * all.length))).length / 64 = all.length / 64 + (padN (tailOf all) all.length (beBytes 8 (8 * all.length))).length / 64 := by
    rw [h1, List.length_append, h2]; omega
  have h4 : blocksN kTab (all.length / 64) iv (padN all all.length (beBytes 8 (8 * all.length))) = stOf all := by
    have h5 := blocksN_prefix kTab (all.length / 64) iv (all.take (64 * (all.length / 64))) (all.drop (64 * (all.length / 64))) (by omega)
    rw [List.take_append_drop] at h5
    rw [h1, blocksN_prefix _ _ _ _ _ (by omega), ← h5, stOf]
  rw [h3, blocksN_split, h4]
  congr 1
  rw [h1]
  exact (List.drop_left' h2).symm
end Go.Proofs.YtokggppfobbblaaDoor
