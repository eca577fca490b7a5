/-
  Texts of this claim in one file: Law14a, Law14b.
-/
import Derived.Test.YthooibljnfnnhaaPk3
section
namespace Go.Proofs.Ythooibljnfnnhaa
open Go Go.RowKit
set_option linter.unusedVariables false
set_option linter.unusedSimpArgs false
theorem pow2_inj {a b : Nat} (h : 2 ^ a = 2 ^ b) : a = b := by
  have h2 := congrArg Nat.log2 h
  rwa [Nat.log2_two_pow, Nat.log2_two_pow] at h2
def inB (x n : Int) : Bool := fitB n && decide (0 ≤ x) && decide (x ≤ 2 * n - 2)
def ht (n : Int) : Nat := n.toNat.log2
def leftZ (x : Int) : Int := if inB x 65536 = true ∧ 0 < lv x.toNat then (nd (2 * qt x.toNat) (lv x.toNat - 1) : Int) else -1
def rightZ (x : Int) : Int := if inB x 65536 = true ∧ 0 < lv x.toNat then (nd (2 * qt x.toNat + 1) (lv x.toNat - 1) : Int) else -1
def firstZ (x : Int) : Int := if inB x 65536 = true then ((qt x.toNat * 2 ^ lv x.toNat : Nat) : Int) else -1
def lastZ (x : Int) : Int := if inB x 65536 = true then (((qt x.toNat + 1) * 2 ^ lv x.toNat - 1 : Nat) : Int) else -1
def rootZ (n : Int) : Int := if fitB n = true then n - 1 else -1
def underZ (x y : Int) : Bool := inB x 65536 && inB y 65536 && undB (qt x.toNat) (lv x.toNat) (qt y.toNat) (lv y.toNat)
theorem inB_iff {x n : Int} : inB x n = true ↔ inT x n := by
  unfold inB
  rw [Bool.and_eq_true, Bool.and_eq_true, decide_eq_true_eq, decide_eq_true_eq]
  exact ⟨fun h => inT_of h.1.1 h.1.2 h.2, fun h => by obtain ⟨h1, h2, h3⟩ := inT_fit h; exact ⟨⟨h1, h2⟩, h3⟩⟩
theorem inB_nd {q l k : Nat} (hq : q < 2 ^ k) (hk : l + k ≤ 16) : inB (nd q l : Int) ((2 ^ (l + k) : Nat) : Int) = true := inB_iff.2 ⟨q, l, k, hq, hk, rfl, rfl⟩
theorem inB_16 {q l k : Nat} (hq : q < 2 ^ k) (hk : l + k = 16) : inB (nd q l : Int) 65536 = true := by
  have h := inB_nd (l := l) hq (by omega)
  rw [hk] at h
  exact h
theorem inB_no {x n : Int} (h : ¬ inT x n) : inB x n = false := by rw [Bool.eq_false_iff]; exact fun h2 => h (inB_iff.1 h2)
section
variable {q l k : Nat} (hq : q < 2 ^ k)
include hq
theorem firstZ_nd (hk : l + k = 16) : firstZ (nd q l : Int) = ((q * 2 ^ l : Nat) : Int) := by unfold firstZ; rw [if_pos (inB_16 hq hk), Int.toNat_natCast, lv_nd, qt_nd]
theorem lastZ_nd (hk : l + k = 16) : lastZ (nd q l : Int) = (((q + 1) * 2 ^ l - 1 : Nat) : Int) := by unfold lastZ; rw [if_pos (inB_16 hq hk), Int.toNat_natCast, lv_nd, qt_nd]
theorem leftZ_nd (hk : l + 1 + k = 16) : leftZ (nd q (l + 1) : Int) = (nd (2 * q) l : Int) := by unfold leftZ; rw [Int.toNat_natCast, lv_nd, qt_nd, if_pos ⟨inB_16 hq hk, by omega⟩, Nat.add_sub_cancel]
theorem rightZ_nd (hk : l + 1 + k = 16) : rightZ (nd q (l + 1) : Int) = (nd (2 * q + 1) l : Int) := by unfold rightZ; rw [Int.toNat_natCast, lv_nd, qt_nd, if_pos ⟨inB_16 hq hk, by omega⟩, Nat.add_sub_cancel]
end
theorem leftZ_leaf (q : Nat) : leftZ (nd q 0 : Int) = -1 := by unfold leftZ; rw [Int.toNat_natCast, lv_nd, if_neg (fun h => by omega)]
theorem rightZ_leaf (q : Nat) : rightZ (nd q 0 : Int) = -1 := by unfold rightZ; rw [Int.toNat_natCast, lv_nd, if_neg (fun h => by omega)]
theorem underZ_nd {q l k r m k' : Nat} (hq : q < 2 ^ k) (hk : l + k = 16) (hr : r < 2 ^ k') (hk' : m + k' = 16) : underZ (nd q l : Int) (nd r m : Int) = undB q l r m := by
  unfold underZ
  rw [inB_16 hq hk, inB_16 hr hk', Int.toNat_natCast, Int.toNat_natCast, lv_nd, qt_nd, lv_nd, qt_nd]
  rfl
section
variable {x : Int} (h : ¬ inT x 65536)
include h
theorem firstZ_no : firstZ x = -1 := by unfold firstZ; rw [if_neg (fun h2 => by rw [inB_no h] at h2; cases h2)]
theorem lastZ_no : lastZ x = -1 := by unfold lastZ; rw [if_neg (fun h2 => by rw [inB_no h] at h2; cases h2)]
theorem leftZ_no : leftZ x = -1 := by unfold leftZ; rw [if_neg (fun h2 => by rw [inB_no h] at h2; cases h2.1)]
theorem rightZ_no : rightZ x = -1 := by unfold rightZ; rw [if_neg (fun h2 => by rw [inB_no h] at h2; cases h2.1)]
end
theorem underZ_no {x y : Int} (h : ¬ inT x 65536 ∨ ¬ inT y 65536) : underZ x y = false := by
  unfold underZ
  rcases h with h | h
  · rw [inB_no h]; rfl
  · rw [inB_no h, Bool.and_false]; rfl
/-- A node and its tree, said by number and level. -/
theorem inT_16' {x : Int} (h : inT x 65536) : ∃ q l k : Nat, q < 2 ^ k ∧ l + k = 16 ∧ x = ((nd q l : Nat) : Int) := by
  obtain ⟨q, l, k, hq, hk, rfl, hn⟩ := h
  refine ⟨q, l, k, hq, ?_, rfl⟩
  have h2 : 2 ^ (l + k) = 2 ^ 16 := by have : ((2 ^ 16 : Nat) : Int) = 65536 := by decide
                                       omega
  exact pow2_inj h2
/-- A number; a bool; numbers. -/
def RetI (W : World) (z : Int) (e : Ending) (w' : World) : Prop := e = .returned (.int .i64 z) ∧ Below W.heap.size W w'
def RetB (W : World) (b : Bool) (e : Ending) (w' : World) : Prop := e = .returned (.bool b) ∧ Below W.heap.size W w'
def RetII (W : World) (y z : Int) (e : Ending) (w' : World) : Prop := e = .returned (.tuple #[.int .i64 y, .int .i64 z]) ∧ Below W.heap.size W w'
theorem UnderR (x y : Int) (W : World) : Calls Try.prog 28 #[.int .i64 x, .int .i64 y] W (RetB W (underZ x y)) := by
  by_cases h : inT x 65536
  · by_cases h' : inT y 65536
    · obtain ⟨q, l, k, hq, hk, rfl⟩ := inT_16' h
      obtain ⟨r, m, k', hr, hk', rfl⟩ := inT_16' h'
      rw [underZ_nd hq hk hr hk']; exact Under14_ok q l k r m k' W hq hk hr hk'
    · rw [underZ_no (.inr h')]; exact Under14_no x y W (.inr h')
  · rw [underZ_no (.inl h)]; exact Under14_no x y W (.inl h)
end Go.Proofs.Ythooibljnfnnhaa
end
section
namespace Go.Proofs.Ythooibljnfnnhaa
open Go Go.RowKit
set_option linter.unusedVariables false
set_option linter.unusedSimpArgs false
/-- What an int holds. -/
def I64 (x : Int) : Prop := -9223372036854775808 ≤ x ∧ x ≤ 9223372036854775807
theorem i64_small {x : Int} (h1 : -1 ≤ x) (h2 : x ≤ 1000000) : I64 x := ⟨by omega, by omega⟩
def WRoot : Prop := ∀ (x : Int) (W : World), I64 x → Calls Try.prog 43 #[.int .i64 x] W (RetI W (rootZ x))
def WLeft : Prop := ∀ (x : Int) (W : World), I64 x → Calls Try.prog 68 #[.int .i64 x] W (RetI W (leftZ x))
def WRight : Prop := ∀ (x : Int) (W : World), I64 x → Calls Try.prog 69 #[.int .i64 x] W (RetI W (rightZ x))
def WSpan : Prop := ∀ (x : Int) (W : World), I64 x → Calls Try.prog 72 #[.int .i64 x] W (RetII W (firstZ x) (lastZ x))
end Go.Proofs.Ythooibljnfnnhaa
end
