/-
  SHA-256 in numbers, plain, continued: the digest's bytes, what is put behind the text.
-/
import Derived.Test.YtokggppfobbblaaDoorShaP
import Derived.Test.YtokggppfobbblaaDoorBytes
namespace Go.Proofs.YtokggppfobbblaaDoor
set_option linter.unusedVariables false
set_option linter.unusedSimpArgs false

@[simp] theorem word32_length (x : Nat) : (word32 x).length = 4 := rfl
/-- The bytes of the first k words. -/
def St.bytesTo (s : St) (k : Nat) : List UInt8 := (s.list.take k).flatMap word32
theorem St.bytesTo_end (s : St) : s.bytesTo 8 = s.bytes := rfl
theorem St.bytesTo_length (s : St) (k : Nat) (h : k ≤ 8) : (s.bytesTo k).length = 4 * k := by
  have : k = 0 ∨ k = 1 ∨ k = 2 ∨ k = 3 ∨ k = 4 ∨ k = 5 ∨ k = 6 ∨ k = 7 ∨ k = 8 := by omega
  rcases this with rfl | rfl | rfl | rfl | rfl | rfl | rfl | rfl | rfl <;> rfl
theorem St.bytes_length (s : St) : s.bytes.length = 32 := rfl
theorem St.bytesTo_succ (s : St) (k x : Nat) (hx : s.list[k]? = some x) : s.bytesTo (k + 1) = s.bytesTo k ++ word32 x := by
  unfold St.bytesTo
  rw [List.take_add_one, hx, List.flatMap_append]
  simp
/-- How many noughts stand behind the mark. -/
def padZ (n : Nat) : Nat := (119 - n % 64) % 64
/-- What is behind the whole blocks, with the mark, the noughts and the count of all bits. -/
def padN (r : List UInt8) (n : Nat) (count : List UInt8) : List UInt8 := r ++ [128] ++ List.replicate (padZ n) 0 ++ count
theorem padN_length (r : List UInt8) (n : Nat) (c : List UInt8) (hr : r.length % 64 = n % 64) (hc : c.length = 8) : (padN r n c).length % 64 = 0 := by
  simp only [padN, List.length_append, List.length_cons, List.length_nil, List.length_replicate, hc]
  unfold padZ
  omega
end Go.Proofs.YtokggppfobbblaaDoor
