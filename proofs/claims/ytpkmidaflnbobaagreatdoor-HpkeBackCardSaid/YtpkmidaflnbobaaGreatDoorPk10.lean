/-
  Texts of this claim in one file: BigP, Big3, BigB.
-/
import Derived.Test.YtpkmidaflnbobaaGreatDoorPk39
import Derived.Test.YtpkmidaflnbobaaGreatDoorPk38
import Derived.Test.YtpkmidaflnbobaaGreatDoorPk2
import Derived.Deep.RegionHeld3
section
namespace Go.Proofs.YtpkmidaflnbobaaGreatDoor
set_option linter.unusedVariables false
set_option linter.unusedSimpArgs false
def val : List Nat → Nat
  | [] => 0
  | d :: l => d + 32768 * val l
/-- All are digits. -/
def Dgs (ds : List Nat) : Prop := ∀ x ∈ ds, x < 32768
theorem Dgs.take {xs : List Nat} (h : Dgs xs) (k : Nat) : Dgs (xs.take k) := fun x hx => h x (List.mem_of_mem_take hx)
end Go.Proofs.YtpkmidaflnbobaaGreatDoor
end
section
namespace Go.Proofs.YtpkmidaflnbobaaGreatDoor
section
open Go.RowKit
set_option linter.unusedVariables false
set_option linter.unusedSimpArgs false
end
section
open Go.RowKit
set_option linter.unusedVariables false
set_option linter.unusedSimpArgs false
end
section
open Go.RowKit
set_option linter.unusedVariables false
set_option linter.unusedSimpArgs false
theorem belowB_drewN {B : Nat} {a w : World} (h : Below B a w) (n : Nat) : Below B a (w.drewN n) := ⟨h.os, h.tape, h.output, h.size, h.block⟩
/-- A row made whole. -/
theorem own_row {w : World} {base g n : Nat} {e : TypeId} {xs : List Value} (h : w.ownsRow base e 1 (.slice (some ⟨g, 0, none⟩) n n) n xs) : w.heap[g]? = some (.cells xs.toArray e (0, 0)) ∧ base ≤ g := by
  obtain ⟨hl, h⟩ := h
  rcases h with ⟨h1, _⟩ | ⟨g', cap, cur, hv, hb, hg, h1, h2, h3, h4⟩
  · simp at h1
  · simp only [Value.slice.injEq, Option.some.injEq, Addr.mk.injEq] at hv
    obtain ⟨⟨rfl, _⟩, _, rfl⟩ := hv
    refine ⟨?_, hb⟩
    have hc : cur = xs.toArray := by
      rw [← h4, List.take_of_length_le (by rw [Array.length_toList, h3]; exact Nat.le_refl _), Array.toArray_toList]
    rw [hg, hc]
theorem Dgs.set {L : List Nat} (h : Dgs L) (p y : Nat) (hy : y < 32768) : Dgs (L.set p y) := fun x hx => by
  rcases List.mem_or_eq_of_mem_set hx with h1 | h1
  · exact h x h1
  · omega
theorem Dgs.getD {L : List Nat} (h : Dgs L) (p : Nat) : L.getD p 0 < 32768 := by
  by_cases hp : p < L.length
  · rw [List.getD_eq_getElem?_getD, List.getElem?_eq_getElem hp]; exact h _ (List.getElem_mem hp)
  · rw [List.getD_eq_getElem?_getD, List.getElem?_eq_none (by omega)]; decide
end
end Go.Proofs.YtpkmidaflnbobaaGreatDoor
end
section
namespace Go.Proofs.YtpkmidaflnbobaaGreatDoor
open Go.RowKit
set_option linter.unusedVariables false
set_option linter.unusedSimpArgs false
theorem Sq.on6 {w w' : World} {A : Option Addr} {c : Nat} {xs : List Value} (h : Sq w w.heap.size A c xs) (hb : Below w.heap.size w w') : Sq w' w'.heap.size A c xs := (h.below hb).more hb.size
/-- Where the bytes lie that the call owns. -/
theorem own_parts {w : World} {B n c : Nat} {A : Option Addr} {xs : List Value} (h : w.ownsRow B 5 1 (.slice A n c) n xs) (hn : 0 < n) :
    ∃ g cur, A = some ⟨g, 0, none⟩ ∧ B ≤ g ∧ w.heap[g]? = some (.cells cur 5 (0, 0)) ∧ (∀ (j : Nat) (v : Value), xs[j]? = some v → cur[j]? = some v) ∧ n ≤ c ∧ c ≤ 9223372036854775807 := by
  obtain ⟨hl, h⟩ := h
  rcases h with ⟨h1, h2⟩ | ⟨g, cap, cur, hv, hb, hg, h1, h2, h3, h4⟩
  · omega
  · simp only [Value.slice.injEq] at hv
    obtain ⟨rfl, _, rfl⟩ := hv
    refine ⟨g, cur, rfl, hb, hg, fun j v hj => ?_, h1, by simpa [maxLen] using h2⟩
    rw [← h4, List.getElem?_take] at hj
    split at hj
    · rw [← hj]; simp
    · cases hj
/-- Cells from a block's start on, as bytes. -/
theorem row_sq {w : World} {g c : Nat} {cur : Array Value} {t : TypeId} {xs : List UInt8} (h : w.heap[g]? = some (.cells cur t (0, 0))) (hx : ∀ (j : Nat) (v : Value), (bvs xs)[j]? = some v → cur[j]? = some v) (hc : xs.length ≤ c) (hc2 : c ≤ 9223372036854775807) : Sq w w.heap.size (some ⟨g, 0, none⟩) c (bvs xs) :=
  .inr ⟨g, 0, rfl, block_lt h, by simpa using hc, hc2, fun j u hu => by rw [Nat.zero_add]; exact cell_of h j u (hx j u hu)⟩
theorem bvs_at (xs : List UInt8) (j : Nat) (h : j < xs.length) : (bvs xs)[j]? = some (.int .u8 (xs[j].toNat : Int)) := by simp [bvs, h]
theorem bvs_set7 (xs : List UInt8) (k : Nat) (y : UInt8) : bvs (xs.set k y) = (bvs xs).set k (.int .u8 (y.toNat : Int)) := by
  unfold bvs; rw [List.map_set]
/-- One byte stored, over cells that read as bytes. -/
theorem set_cells {ps : List UInt8} {cur : Array Value} (hcp : ∀ (j : Nat) (v : Value), (bvs ps)[j]? = some v → cur[j]? = some v) (k : Nat) (hk : k < ps.length) (z : UInt8) :
    ∀ (j : Nat) (v : Value), (bvs (ps.set k z))[j]? = some v → (cur.setIfInBounds k (.int .u8 (z.toNat : Int)))[j]? = some v := fun j v hj => by
  rw [bvs_set7] at hj
  by_cases h0 : j = k
  · subst h0
    rw [List.getElem?_set_self (by rw [bvs_length]; exact hk)] at hj
    have hcz := (Array.getElem?_eq_some_iff.1 (hcp j _ (bvs_at ps j hk))).1
    rw [Array.getElem?_setIfInBounds_self_of_lt hcz]
    exact hj
  · rw [List.getElem?_set_ne (fun h => h0 h.symm)] at hj
    rw [Array.getElem?_setIfInBounds_ne (fun h => h0 h.symm)]
    exact hcp j v hj
end Go.Proofs.YtpkmidaflnbobaaGreatDoor
end
