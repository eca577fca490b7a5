/-
  The tag of a text under a key, plain.
-/
import Derived.Test.YtpdkpadpdkagoaaDoorShaP
namespace Go.Proofs.YtpdkpadpdkagoaaDoor
set_option linter.unusedVariables false
set_option linter.unusedSimpArgs false

/-- The key as it is taken: its digest, where it is longer than a block. -/
def padK (key : List UInt8) : List UInt8 := if 64 < key.length then shaB key else key
/-- A block: each byte of the key, 0 behind its end, held against x. -/
def padX (x : UInt8) (k : List UInt8) : List UInt8 := (List.range 64).map fun i => k.getD i 0 ^^^ x
@[simp] theorem padX_length (x : UInt8) (k : List UInt8) : (padX x k).length = 64 := by simp [padX]
/-- The tag. -/
def macB (key text : List UInt8) : List UInt8 := shaB (padX 92 (padK key) ++ shaB (padX 54 (padK key) ++ text))
theorem macB_length (key text : List UInt8) : (macB key text).length = 32 := shaB_length _
theorem padK_length (key : List UInt8) : (padK key).length ≤ 64 := by
  unfold padK
  split
  · rw [shaB_length]; omega
  · omega
theorem padK_digest (key : List UInt8) (h : 64 < key.length) : padK (shaB key) = padK key := by
  unfold padK
  rw [if_pos h, if_neg (by rw [shaB_length]; omega)]
theorem padX_noughts (x : UInt8) (k : List UInt8) (n : Nat) : padX x (k ++ List.replicate n 0) = padX x k := by
  unfold padX
  congr 1
  funext i
  congr 1
  simp only [List.getD_eq_getElem?_getD]
  by_cases h : i < k.length
  · rw [List.getElem?_append_left h]
  · rw [List.getElem?_append_right (by omega), List.getElem?_eq_none (by omega : k.length ≤ i), List.getElem?_replicate]
    split <;> rfl
/-- A key with noughts behind it, up to a block. -/
theorem macB_noughts (key text : List UInt8) (n : Nat) (h : key.length + n ≤ 64) : macB (key ++ List.replicate n 0) text = macB key text := by
  have e : padK (key ++ List.replicate n 0) = key ++ List.replicate n 0 := by
    unfold padK; rw [if_neg (by rw [List.length_append, List.length_replicate]; omega)]
  have e2 : padK key = key := by unfold padK; rw [if_neg (by omega)]
  unfold macB
  rw [e, e2, padX_noughts, padX_noughts]
theorem macB_digest (key text : List UInt8) (h : 64 < key.length) : macB (shaB key) text = macB key text := by
  unfold macB; rw [padK_digest key h]

def jefe : List UInt8 := [74, 101, 102, 101]
def whatDo : List UInt8 := [119, 104, 97, 116, 32, 100, 111, 32, 121, 97, 32, 119, 97, 110, 116, 32]
def forNo : List UInt8 := [102, 111, 114, 32, 110, 111, 116, 104, 105, 110, 103, 63]
theorem jefe_four : (macB jefe (whatDo ++ forNo)).take 4 = [91, 220, 193, 70] := by decide +kernel
end Go.Proofs.YtpdkpadpdkagoaaDoor
