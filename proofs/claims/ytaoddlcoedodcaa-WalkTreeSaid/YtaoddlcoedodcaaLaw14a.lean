/-
  Layer 14: what the document's functions answer for any numbers; what package walk must answer; the chapter's examples.
-/
import Derived.Test.YtaoddlcoedodcaaRef14c
namespace Go.Proofs.Ytaoddlcoedodcaa
open Go Go.RowKit
set_option linter.unusedVariables false
set_option linter.unusedSimpArgs false
theorem pow2_inj {a b : Nat} (h : 2 ^ a = 2 ^ b) : a = b := by
  have h2 := congrArg Nat.log2 h
  rwa [Nat.log2_two_pow, Nat.log2_two_pow] at h2
def inB (x n : Int) : Bool := fitB n && decide (0 ≤ x) && decide (x ≤ 2 * n - 2)
def ht (n : Int) : Nat := n.toNat.log2
def levelZ (x : Int) : Int := if inB x 65536 = true then (lv x.toNat : Int) else -1
def leftZ (x : Int) : Int := if inB x 65536 = true ∧ 0 < lv x.toNat then (nd (2 * qt x.toNat) (lv x.toNat - 1) : Int) else -1
def rightZ (x : Int) : Int := if inB x 65536 = true ∧ 0 < lv x.toNat then (nd (2 * qt x.toNat + 1) (lv x.toNat - 1) : Int) else -1
def firstZ (x : Int) : Int := if inB x 65536 = true then ((qt x.toNat * 2 ^ lv x.toNat : Nat) : Int) else -1
def lastZ (x : Int) : Int := if inB x 65536 = true then (((qt x.toNat + 1) * 2 ^ lv x.toNat - 1 : Nat) : Int) else -1
def rootZ (n : Int) : Int := if fitB n = true then n - 1 else -1
def parentZ (x n : Int) : Int := if inB x n = true ∧ lv x.toNat < ht n then (nd (qt x.toNat / 2) (lv x.toNat + 1) : Int) else -1
def sibZ (x n : Int) : Int := if inB x n = true ∧ lv x.toNat < ht n then (nd (sbq (qt x.toNat)) (lv x.toNat) : Int) else -1
def pathZ (x n : Int) : List Nat := if inB x n = true then pathL (qt x.toNat) (lv x.toNat) (ht n - lv x.toNat) else []
def copZ (x n : Int) : List Nat := if inB x n = true then copL (qt x.toNat) (lv x.toNat) (ht n - lv x.toNat) else []
def commonZ (x y n : Int) : Int := if inB x n = true ∧ inB y n = true then comO (qt x.toNat) (lv x.toNat) (ht n - lv x.toNat) (qt y.toNat) (ht n - lv y.toNat) (min (ht n - lv x.toNat) (ht n - lv y.toNat) + 1) else -1
def underZ (x y : Int) : Bool := inB x 65536 && inB y 65536 && undB (qt x.toNat) (lv x.toNat) (qt y.toNat) (lv y.toNat)
theorem inB_iff {x n : Int} : inB x n = true ↔ inT x n := by
  unfold inB
  rw [Bool.and_eq_true, Bool.and_eq_true, decide_eq_true_eq, decide_eq_true_eq]
  exact ⟨fun h => inT_of h.1.1 h.1.2 h.2, fun h => by obtain ⟨h1, h2, h3⟩ := inT_fit h; exact ⟨⟨h1, h2⟩, h3⟩⟩
theorem ht_pow (h : Nat) : ht ((2 ^ h : Nat) : Int) = h := by unfold ht; rw [Int.toNat_natCast, Nat.log2_two_pow]
theorem inB_nd {q l k : Nat} (hq : q < 2 ^ k) (hk : l + k ≤ 16) : inB (nd q l : Int) ((2 ^ (l + k) : Nat) : Int) = true := inB_iff.2 ⟨q, l, k, hq, hk, rfl, rfl⟩
theorem inB_16 {q l k : Nat} (hq : q < 2 ^ k) (hk : l + k = 16) : inB (nd q l : Int) 65536 = true := by
  have h := inB_nd (l := l) hq (by omega)
  rw [hk] at h
  exact h
theorem inB_no {x n : Int} (h : ¬ inT x n) : inB x n = false := by rw [Bool.eq_false_iff]; exact fun h2 => h (inB_iff.1 h2)
section
variable {q l k : Nat} (hq : q < 2 ^ k)
include hq
theorem levelZ_nd (hk : l + k = 16) : levelZ (nd q l : Int) = (l : Int) := by unfold levelZ; rw [if_pos (inB_16 hq hk), Int.toNat_natCast, lv_nd]
theorem firstZ_nd (hk : l + k = 16) : firstZ (nd q l : Int) = ((q * 2 ^ l : Nat) : Int) := by unfold firstZ; rw [if_pos (inB_16 hq hk), Int.toNat_natCast, lv_nd, qt_nd]
theorem lastZ_nd (hk : l + k = 16) : lastZ (nd q l : Int) = (((q + 1) * 2 ^ l - 1 : Nat) : Int) := by unfold lastZ; rw [if_pos (inB_16 hq hk), Int.toNat_natCast, lv_nd, qt_nd]
theorem leftZ_nd (hk : l + 1 + k = 16) : leftZ (nd q (l + 1) : Int) = (nd (2 * q) l : Int) := by unfold leftZ; rw [Int.toNat_natCast, lv_nd, qt_nd, if_pos ⟨inB_16 hq hk, by omega⟩, Nat.add_sub_cancel]
theorem rightZ_nd (hk : l + 1 + k = 16) : rightZ (nd q (l + 1) : Int) = (nd (2 * q + 1) l : Int) := by unfold rightZ; rw [Int.toNat_natCast, lv_nd, qt_nd, if_pos ⟨inB_16 hq hk, by omega⟩, Nat.add_sub_cancel]
theorem pathZ_nd (hk : l + k ≤ 16) : pathZ (nd q l : Int) ((2 ^ (l + k) : Nat) : Int) = pathL q l k := by unfold pathZ; rw [if_pos (inB_nd hq hk), Int.toNat_natCast, lv_nd, qt_nd, ht_pow, Nat.add_sub_cancel_left]
theorem copZ_nd (hk : l + k ≤ 16) : copZ (nd q l : Int) ((2 ^ (l + k) : Nat) : Int) = copL q l k := by unfold copZ; rw [if_pos (inB_nd hq hk), Int.toNat_natCast, lv_nd, qt_nd, ht_pow, Nat.add_sub_cancel_left]
end
theorem leftZ_leaf (q : Nat) : leftZ (nd q 0 : Int) = -1 := by unfold leftZ; rw [Int.toNat_natCast, lv_nd, if_neg (fun h => by omega)]
theorem rightZ_leaf (q : Nat) : rightZ (nd q 0 : Int) = -1 := by unfold rightZ; rw [Int.toNat_natCast, lv_nd, if_neg (fun h => by omega)]
theorem parentZ_nd {q l k : Nat} (hq : q < 2 ^ (k + 1)) (hk : l + (k + 1) ≤ 16) : parentZ (nd q l : Int) ((2 ^ (l + (k + 1)) : Nat) : Int) = (nd (q / 2) (l + 1) : Int) := by
  unfold parentZ; rw [Int.toNat_natCast, lv_nd, qt_nd, ht_pow, if_pos ⟨inB_nd hq hk, by omega⟩]
theorem sibZ_nd {q l k : Nat} (hq : q < 2 ^ (k + 1)) (hk : l + (k + 1) ≤ 16) : sibZ (nd q l : Int) ((2 ^ (l + (k + 1)) : Nat) : Int) = (nd (sbq q) l : Int) := by
  unfold sibZ; rw [Int.toNat_natCast, lv_nd, qt_nd, ht_pow, if_pos ⟨inB_nd hq hk, by omega⟩]
theorem parentZ_root (q l : Nat) : parentZ (nd q l : Int) ((2 ^ l : Nat) : Int) = -1 := by
  unfold parentZ; rw [Int.toNat_natCast, lv_nd, ht_pow, if_neg (fun h => by omega)]
theorem sibZ_root (q l : Nat) : sibZ (nd q l : Int) ((2 ^ l : Nat) : Int) = -1 := by
  unfold sibZ; rw [Int.toNat_natCast, lv_nd, ht_pow, if_neg (fun h => by omega)]
theorem commonZ_nd {q l k q' l' k' : Nat} (hq : q < 2 ^ k) (hk : l + k ≤ 16) (hq' : q' < 2 ^ k') (hk' : l' + k' = l + k) : commonZ (nd q l : Int) (nd q' l' : Int) ((2 ^ (l + k) : Nat) : Int) = comO q l k q' k' (min k k' + 1) := by
  have h2 := inB_nd (l := l') hq' (by omega)
  rw [hk'] at h2
  unfold commonZ
  rw [if_pos ⟨inB_nd hq hk, h2⟩, Int.toNat_natCast, Int.toNat_natCast, lv_nd, qt_nd, lv_nd, qt_nd, ht_pow, Nat.add_sub_cancel_left, show l + k - l' = k' by omega]
theorem underZ_nd {q l k r m k' : Nat} (hq : q < 2 ^ k) (hk : l + k = 16) (hr : r < 2 ^ k') (hk' : m + k' = 16) : underZ (nd q l : Int) (nd r m : Int) = undB q l r m := by
  unfold underZ
  rw [inB_16 hq hk, inB_16 hr hk', Int.toNat_natCast, Int.toNat_natCast, lv_nd, qt_nd, lv_nd, qt_nd]
  rfl
section
variable {x n : Int} (h : ¬ inT x n)
include h
theorem parentZ_no : parentZ x n = -1 := by unfold parentZ; rw [if_neg (fun h2 => by rw [inB_no h] at h2; cases h2.1)]
theorem sibZ_no : sibZ x n = -1 := by unfold sibZ; rw [if_neg (fun h2 => by rw [inB_no h] at h2; cases h2.1)]
theorem pathZ_no : pathZ x n = [] := by unfold pathZ; rw [if_neg (fun h2 => by rw [inB_no h] at h2; cases h2)]
theorem copZ_no : copZ x n = [] := by unfold copZ; rw [if_neg (fun h2 => by rw [inB_no h] at h2; cases h2)]
end
section
variable {x : Int} (h : ¬ inT x 65536)
include h
theorem levelZ_no : levelZ x = -1 := by unfold levelZ; rw [if_neg (fun h2 => by rw [inB_no h] at h2; cases h2)]
theorem firstZ_no : firstZ x = -1 := by unfold firstZ; rw [if_neg (fun h2 => by rw [inB_no h] at h2; cases h2)]
theorem lastZ_no : lastZ x = -1 := by unfold lastZ; rw [if_neg (fun h2 => by rw [inB_no h] at h2; cases h2)]
theorem leftZ_no : leftZ x = -1 := by unfold leftZ; rw [if_neg (fun h2 => by rw [inB_no h] at h2; cases h2.1)]
theorem rightZ_no : rightZ x = -1 := by unfold rightZ; rw [if_neg (fun h2 => by rw [inB_no h] at h2; cases h2.1)]
end
theorem commonZ_no {x y n : Int} (h : ¬ inT x n ∨ ¬ inT y n) : commonZ x y n = -1 := by
  unfold commonZ
  rw [if_neg]
  rintro ⟨h1, h2⟩
  rcases h with h | h
  · exact h (inB_iff.1 h1)
  · exact h (inB_iff.1 h2)
theorem underZ_no {x y : Int} (h : ¬ inT x 65536 ∨ ¬ inT y 65536) : underZ x y = false := by
  unfold underZ
  rcases h with h | h
  · rw [inB_no h]; rfl
  · rw [inB_no h, Bool.and_false]; rfl
/-- A node and its tree, said by number and level. -/
theorem inT_16' {x : Int} (h : inT x 65536) : ∃ q l k : Nat, q < 2 ^ k ∧ l + k = 16 ∧ x = ((nd q l : Nat) : Int) := by
  obtain ⟨q, l, k, hq, hk, rfl, hn⟩ := h
  refine ⟨q, l, k, hq, ?_, rfl⟩
  have h2 : 2 ^ (l + k) = 2 ^ 16 := by have : ((2 ^ 16 : Nat) : Int) = 65536 := by decide
                                       omega
  exact pow2_inj h2
/-- A number; a bool; numbers. -/
def RetI (W : World) (z : Int) (e : Ending) (w' : World) : Prop := e = .returned (.int .i64 z) ∧ Below W.heap.size W w'
def RetB (W : World) (b : Bool) (e : Ending) (w' : World) : Prop := e = .returned (.bool b) ∧ Below W.heap.size W w'
def RetII (W : World) (y z : Int) (e : Ending) (w' : World) : Prop := e = .returned (.tuple #[.int .i64 y, .int .i64 z]) ∧ Below W.heap.size W w'
theorem FitsR (n : Int) (W : World) : Calls Try.prog 13 #[.int .i64 n] W (RetB W (fitB n)) := (Fits14_any n W).mono fun e w' ⟨h1, h2⟩ => ⟨h1, by rw [h2]; exact Below.refl _ _⟩
theorem LevelR (x : Int) (W : World) : Calls Try.prog 15 #[.int .i64 x] W (RetI W (levelZ x)) := by
  by_cases h : inT x 65536
  · obtain ⟨q, l, k, hq, hk, rfl⟩ := inT_16' h
    rw [levelZ_nd hq hk]; exact Level14_ok q l k W hq hk
  · rw [levelZ_no h]; exact Level14_no x W h
theorem ChildrenR (x : Int) (W : World) : Calls Try.prog 10 #[.int .i64 x] W (RetII W (leftZ x) (rightZ x)) := by
  by_cases h : inT x 65536
  · obtain ⟨q, l, k, hq, hk, rfl⟩ := inT_16' h
    cases l with
    | zero => rw [leftZ_leaf, rightZ_leaf]; exact Children14_leaf q k W hq (by omega)
    | succ l => rw [leftZ_nd hq hk, rightZ_nd hq hk]; exact Children14_ok q l k W hq hk
  · rw [leftZ_no h, rightZ_no h]; exact Children14_no x W h
theorem ParentR (x n : Int) (W : World) : Calls Try.prog 21 #[.int .i64 x, .int .i64 n] W (RetI W (parentZ x n)) := by
  by_cases h : inT x n
  · obtain ⟨q, l, k, hq, hk, rfl, rfl⟩ := h
    cases k with
    | zero => rw [Nat.add_zero, parentZ_root]; exact Parent14_root q l W hq (by omega)
    | succ k => rw [parentZ_nd hq hk]; exact Parent14_ok q l k W hq hk
  · rw [parentZ_no h]; exact Parent14_no x n W h
theorem SiblingR (x n : Int) (W : World) : Calls Try.prog 23 #[.int .i64 x, .int .i64 n] W (RetI W (sibZ x n)) := by
  by_cases h : inT x n
  · obtain ⟨q, l, k, hq, hk, rfl, rfl⟩ := h
    cases k with
    | zero => rw [Nat.add_zero, sibZ_root]; exact Sibling14_none _ _ W (hid fun W => Parent14_root q l W hq (by omega))
    | succ k => rw [sibZ_nd hq hk]; exact Sibling14_ok q l k W hq hk
  · rw [sibZ_no h]; exact Sibling14_none _ _ W (hid fun W => Parent14_no x n W h)
theorem PathR (x n : Int) (W : World) : Calls Try.prog 26 #[.int .i64 x, .int .i64 n] W (OwnL W (pathZ x n)) := by
  by_cases h : inT x n
  · obtain ⟨q, l, k, hq, hk, rfl, rfl⟩ := h
    rw [pathZ_nd hq hk]; exact Path14_ok q l k W hq hk
  · rw [pathZ_no h]; exact Path14_no x n W h
theorem CopathR (x n : Int) (W : World) : Calls Try.prog 28 #[.int .i64 x, .int .i64 n] W (OwnL W (copZ x n)) := by
  by_cases h : inT x n
  · obtain ⟨q, l, k, hq, hk, rfl, rfl⟩ := h
    rw [copZ_nd hq hk]; exact Copath14_ok q l k W hq hk
  · rw [copZ_no h]; exact Copath14_no x n W h
theorem CommonR (x y n : Int) (W : World) : Calls Try.prog 30 #[.int .i64 x, .int .i64 y, .int .i64 n] W (RetI W (commonZ x y n)) := by
  by_cases h : inT x n
  · by_cases h' : inT y n
    · obtain ⟨q, l, k, hq, hk, rfl, rfl⟩ := h
      obtain ⟨q', l', k', hq', hk', rfl, he⟩ := h'
      have he' : l' + k' = l + k := pow2_inj (by omega)
      rw [commonZ_nd hq hk hq' he']; exact Common14_ok q l k q' l' k' W hq hk hq' he'
    · rw [commonZ_no (.inr h')]; exact Common14_no x y n W (.inr h')
  · rw [commonZ_no (.inl h)]; exact Common14_no x y n W (.inl h)
theorem UnderR (x y : Int) (W : World) : Calls Try.prog 32 #[.int .i64 x, .int .i64 y] W (RetB W (underZ x y)) := by
  by_cases h : inT x 65536
  · by_cases h' : inT y 65536
    · obtain ⟨q, l, k, hq, hk, rfl⟩ := inT_16' h
      obtain ⟨r, m, k', hr, hk', rfl⟩ := inT_16' h'
      rw [underZ_nd hq hk hr hk']; exact Under14_ok q l k r m k' W hq hk hr hk'
    · rw [underZ_no (.inr h')]; exact Under14_no x y W (.inr h')
  · rw [underZ_no (.inl h)]; exact Under14_no x y W (.inl h)
end Go.Proofs.Ytaoddlcoedodcaa
