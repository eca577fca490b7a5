/-
  SHA-512 in numbers, plain, continued: the digest's bytes, what is put behind the text, blocks one behind the other.
-/
import Derived.Test.YtokggppfobbblaaDoorLonP
namespace Go.Proofs.YtokggppfobbblaaDoor
set_option linter.unusedVariables false
set_option linter.unusedSimpArgs false

/-- The bytes of the first k words. -/
def St.bytesToL (s : St) (k : Nat) : List UInt8 := (s.list.take k).flatMap (beBytes 8)
theorem St.bytesToL_end (s : St) : s.bytesToL 8 = s.bytesL := rfl
theorem St.bytesToL_length (s : St) (k : Nat) (h : k ≤ 8) : (s.bytesToL k).length = 8 * k := by
  have : k = 0 ∨ k = 1 ∨ k = 2 ∨ k = 3 ∨ k = 4 ∨ k = 5 ∨ k = 6 ∨ k = 7 ∨ k = 8 := by omega
  rcases this with rfl | rfl | rfl | rfl | rfl | rfl | rfl | rfl | rfl <;> rfl
theorem St.bytesL_length (s : St) : s.bytesL.length = 64 := rfl
theorem St.bytesToL_succ (s : St) (k x : Nat) (hx : s.list[k]? = some x) : s.bytesToL (k + 1) = s.bytesToL k ++ beBytes 8 x := by
  unfold St.bytesToL
  rw [List.take_add_one, hx, List.flatMap_append]
  simp
/-- How many noughts stand behind the mark. -/
def padZL (n : Nat) : Nat := (239 - n % 128) % 128
/-- What is behind the whole blocks, with the mark, the noughts and the count of all bits. -/
def padNL (r : List UInt8) (n : Nat) (count : List UInt8) : List UInt8 := r ++ [128] ++ List.replicate (padZL n) 0 ++ count
theorem padNL_length (r : List UInt8) (n : Nat) (c : List UInt8) (hr : r.length % 128 = n % 128) (hc : c.length = 16) : (padNL r n c).length % 128 = 0 := by
  simp only [padNL, List.length_append, List.length_cons, List.length_nil, List.length_replicate, hc]
  unfold padZL
  omega
theorem blocksL_split (K : List Nat) (a c : Nat) (s : St) (m : List UInt8) : blocksL K (a + c) s m = blocksL K c (blocksL K a s m) (m.drop (128 * a)) := by
  induction a generalizing s m with
  | zero => simp [blocksL]
  | succ a ih =>
    rw [show a + 1 + c = (a + c) + 1 by omega, blocksL, ih]
    conv => rhs; rw [blocksL]
    rw [List.drop_drop, show 128 + 128 * a = 128 * (a + 1) by omega]
theorem blocksL_prefix (K : List Nat) (a : Nat) (s : St) (m t : List UInt8) (h : 128 * a ≤ m.length) : blocksL K a s (m ++ t) = blocksL K a s m := by
  induction a generalizing s m with
  | zero => rfl
  | succ a ih =>
    rw [blocksL, blocksL, List.take_append_of_le_length (by omega), List.drop_append_of_le_length (by omega), ih _ _ (by rw [List.length_drop]; omega)]
theorem blocksL_next (K : List Nat) (k : Nat) (s : St) (m : List UInt8) : blocksL K (k + 1) s m = mixL K (blocksL K k s m) ((m.drop (128 * k)).take 128) := by
  rw [blocksL_split K k 1, blocksL, blocksL]

/-- What is written: the state behind the whole blocks. -/
def stOfL (all : List UInt8) : St := blocksL kTabL (all.length / 128) ivL all
/-- What is behind the whole blocks. -/
def tailOfL (all : List UInt8) : List UInt8 := all.drop (128 * (all.length / 128))
theorem tailOfL_length (all : List UInt8) : (tailOfL all).length = all.length % 128 := by
  rw [tailOfL, List.length_drop]; omega
theorem blocksL_okay (K : List Nat) (k : Nat) (s : St) (m : List UInt8) (h : s.okL) : (blocksL K k s m).okL := by
  induction k generalizing s m with
  | zero => exact h
  | succ k ih => exact ih _ _ (mixL_ok K s _)
theorem stOfL_ok (all : List UInt8) : (stOfL all).okL := blocksL_okay _ _ _ _ ivL_ok
theorem stOfL_short (all : List UInt8) (h : all.length < 128) : stOfL all = ivL := by
  rw [stOfL, Nat.div_eq_of_lt h]; rfl
theorem tailOfL_short (all : List UInt8) (h : all.length < 128) : tailOfL all = all := by
  rw [tailOfL, Nat.div_eq_of_lt h]; simp
/-- Behind q whole blocks of all that is there, through those of the rest. -/
theorem stL_rest (q : Nat) (m : List UInt8) (h : 128 * q ≤ m.length) : blocksL kTabL ((m.drop (128 * q)).length / 128) (blocksL kTabL q ivL m) (m.drop (128 * q)) = stOfL m := by
  rw [stOfL, ← blocksL_split, List.length_drop]
  congr 1
  omega
theorem tailL_rest (q : Nat) (m : List UInt8) (h : 128 * q ≤ m.length) : (m.drop (128 * q)).drop (128 * ((m.drop (128 * q)).length / 128)) = tailOfL m := by
  rw [tailOfL, List.drop_drop, List.length_drop]
  congr 1
  omega
/-- Nothing stood behind the whole blocks. -/
theorem wholeL_state (all b : List UInt8) (h : all.length % 128 = 0) : stOfL all = blocksL kTabL (all.length / 128) ivL (all ++ b) ∧ b = (all ++ b).drop (128 * (all.length / 128)) ∧ 128 * (all.length / 128) ≤ (all ++ b).length := by
  refine ⟨?_, ?_, by simp; omega⟩
  · rw [stOfL, blocksL_prefix _ _ _ _ _ (by omega)]
  · rw [show 128 * (all.length / 128) = all.length by omega, List.drop_left]
/-- The block that is filled up. -/
theorem fillL_state (all b : List UInt8) (h : 128 ≤ all.length % 128 + b.length) :
    mixL kTabL (stOfL all) (tailOfL all ++ b.take (128 - all.length % 128)) = blocksL kTabL (all.length / 128 + 1) ivL (all ++ b) ∧ b.drop (128 - all.length % 128) = (all ++ b).drop (128 * (all.length / 128 + 1)) ∧ 128 * (all.length / 128 + 1) ≤ (all ++ b).length := by
  have hl := tailOfL_length all
  refine ⟨?_, ?_, by simp; omega⟩
  · rw [blocksL_next, blocksL_prefix _ _ _ _ _ (by omega), List.drop_append_of_le_length (by omega)]
    rw [show all.drop (128 * (all.length / 128)) = tailOfL all from rfl, List.take_append, hl, stOfL]
    rw [List.take_of_length_le (l := tailOfL all) (by omega)]
  · have e : all.drop (128 * (all.length / 128 + 1)) = [] := List.drop_eq_nil_of_le (by omega)
    rw [List.drop_append, e, List.nil_append]
    congr 1
    omega
/-- A part that doesn't fill the block up. -/
theorem partL_state (all b : List UInt8) (h : all.length % 128 + b.length < 128) : stOfL (all ++ b) = stOfL all ∧ tailOfL (all ++ b) = tailOfL all ++ b := by
  have e : (all ++ b).length / 128 = all.length / 128 := by rw [List.length_append]; omega
  refine ⟨?_, ?_⟩
  · rw [stOfL, stOfL, e, blocksL_prefix _ _ _ _ _ (by omega)]
  · rw [tailOfL, tailOfL, e, List.drop_append_of_le_length (by omega)]

/-- The digest. -/
def closeSL (s : St) (r : List UInt8) (n : Nat) : St := blocksL kTabL ((padNL r n (beBytes 16 (8 * n))).length / 128) s (padNL r n (beBytes 16 (8 * n)))
def longB (all : List UInt8) : List UInt8 := (closeSL (stOfL all) (tailOfL all) all.length).bytesL
theorem longB_length (all : List UInt8) : (longB all).length = 64 := rfl
/-- .. of all that stands there with what is put behind it. -/
theorem longB_whole (all : List UInt8) : longB all = (blocksL kTabL ((padNL all all.length (beBytes 16 (8 * all.length))).length / 128) ivL (padNL all all.length (beBytes 16 (8 * all.length)))).bytesL := by
  rw [longB, closeSL]
  congr 1
  have h1 : padNL all all.length (beBytes 16 (8 * all.length)) = all.take (128 * (all.length / 128)) ++ padNL (tailOfL all) all.length (beBytes 16 (8 * all.length)) := by
    simp only [padNL, tailOfL, ← List.append_assoc, List.take_append_drop]
  have h2 : (all.take (128 * (all.length / 128))).length = 128 * (all.length / 128) := by rw [List.length_take]; omega
  have h3 : (padNL all all.length (beBytes 16 (8 * all.length))).length / 128 = all.length / 128 + (padNL (tailOfL all) all.length (beBytes 16 (8 * all.length))).length / 128 := by
    rw [h1, List.length_append, h2]; omega
  have h4 : blocksL kTabL (all.length / 128) ivL (padNL all all.length (beBytes 16 (8 * all.length))) = stOfL all := by
    have h5 := blocksL_prefix kTabL (all.length / 128) ivL (all.take (128 * (all.length / 128))) (all.drop (128 * (all.length / 128))) (by omega)
    rw [List.take_append_drop] at h5
    rw [h1, blocksL_prefix _ _ _ _ _ (by omega), ← h5, stOfL]
  rw [h3, blocksL_split, h4]
  congr 1
  rw [h1]
  exact (List.drop_left' h2).symm
end Go.Proofs.YtokggppfobbblaaDoor
