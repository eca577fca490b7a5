/-
  What is expanded, plain.
-/
import Derived.Test.YtpdkpadpdkagoaaDoorMacP
import Derived.Test.YtpdkpadpdkagoaaDoorWire3
namespace Go.Proofs.YtpdkpadpdkagoaaDoor
set_option linter.unusedVariables false
set_option linter.unusedSimpArgs false

/-- The i-th block: nothing at first. -/
def kBlk (key info : List UInt8) : Nat → List UInt8
  | 0 => []
  | i + 1 => macB key (kBlk key info i ++ (info ++ [UInt8.ofNat (i + 1)]))
/-- The first i blocks. -/
def kAll (key info : List UInt8) : Nat → List UInt8
  | 0 => []
  | i + 1 => kAll key info i ++ kBlk key info (i + 1)
/-- Expanded to n bytes. -/
def kdfB (key info : List UInt8) (n : Nat) : List UInt8 := (kAll key info ((n + 31) / 32)).take n

theorem kBlk_length (key info : List UInt8) (i : Nat) : (kBlk key info (i + 1)).length = 32 := macB_length _ _
theorem kBlk_le (key info : List UInt8) (i : Nat) : (kBlk key info i).length ≤ 32 := by
  cases i with
  | zero => simp [kBlk]
  | succ i => rw [kBlk_length]; omega
theorem kAll_length (key info : List UInt8) (i : Nat) : (kAll key info i).length = 32 * i := by
  induction i with
  | zero => rfl
  | succ i ih => rw [kAll, List.length_append, ih, kBlk_length]; omega
theorem kdfB_length (key info : List UInt8) (n : Nat) : (kdfB key info n).length = n := by
  rw [kdfB, List.length_take, kAll_length]; omega
theorem kAll_prefix (key info : List UInt8) (i j : Nat) (h : i ≤ j) : (kAll key info j).take (32 * i) = kAll key info i := by
  obtain ⟨d, rfl⟩ := Nat.exists_eq_add_of_le h
  clear h
  induction d with
  | zero => rw [Nat.add_zero, List.take_of_length_le (by rw [kAll_length]; omega)]
  | succ d ih =>
    rw [← Nat.add_assoc, kAll, List.take_append_of_le_length (by rw [kAll_length]; omega)]
    exact ih
/-- Whatever number of blocks that is enough. -/
theorem kAll_cut (key info : List UInt8) (i n : Nat) (h : n ≤ 32 * i) : (kAll key info i).take n = kdfB key info n := by
  rw [kdfB, ← kAll_prefix key info ((n + 31) / 32) i (by omega), List.take_take, Nat.min_eq_left (by omega)]
/-- Fewer bytes are more, cut short. -/
theorem kdfB_cut (key info : List UInt8) (n m : Nat) (h : m ≤ n) : (kdfB key info n).take m = kdfB key info m := by
  rw [kdfB, List.take_take, Nat.min_eq_left h, kAll_cut key info _ m (by omega)]
/-- A round of the program: the bytes told, and as many of the next block as are missing. -/
theorem kAll_round (key info : List UInt8) (i n : Nat) (h : 32 * i < n) :
    (kAll key info i).take n ++ (kBlk key info (i + 1)).take (min 32 (n - 32 * i)) = (kAll key info (i + 1)).take n := by
  rw [kAll, List.take_append, kAll_length]
  congr 1
  by_cases h32 : n - 32 * i ≤ 32
  · rw [Nat.min_eq_right h32]
  · rw [Nat.min_eq_left (by omega), List.take_of_length_le (by rw [kBlk_length]; omega), List.take_of_length_le (by rw [kBlk_length]; omega)]

def mlsB : List UInt8 := [77, 76, 83, 32, 49, 46, 48, 32]
/-- The info of a label and a context. -/
def labB (label context : List UInt8) (n : Nat) : List UInt8 := (beBytes 2 n ++ vecBytes (mlsB ++ label)) ++ vecBytes context
def refB (label b : List UInt8) : List UInt8 := shaB (vecBytes label ++ vecBytes b)
theorem vecBytes_length (v : List UInt8) : (vecBytes v).length = lenSize v.length + v.length := by rw [vecBytes, List.length_append, lenBytes_length]
theorem vecBytes_le (v : List UInt8) : (vecBytes v).length ≤ v.length + 4 := by have := lenSize_le v.length; rw [vecBytes_length]; omega
theorem labB_le (label context : List UInt8) (n : Nat) : (labB label context n).length ≤ label.length + context.length + 18 := by
  have h1 := vecBytes_le (mlsB ++ label); have h2 := vecBytes_le context
  rw [List.length_append, show mlsB.length = 8 from rfl] at h1
  rw [labB, List.length_append, List.length_append, beBytes_length]; omega
end Go.Proofs.YtpdkpadpdkagoaaDoor
