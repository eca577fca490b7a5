/-
  Texts of this claim in one file: BigP, Big3, BigB.
-/
import Derived.Test.YtgehfbcagaaggaaGreatDoorPk31
import Derived.Test.YtgehfbcagaaggaaGreatDoorPk32
import Derived.Test.YtgehfbcagaaggaaGreatDoorPk30
import Derived.Deep.RegionHeld3
section
namespace Go.Proofs.YtgehfbcagaaggaaGreatDoor
set_option linter.unusedVariables false
set_option linter.unusedSimpArgs false
def val : List Nat → Nat
  | [] => 0
  | d :: l => d + 32768 * val l
/-- All are digits. -/
def Dgs (ds : List Nat) : Prop := ∀ x ∈ ds, x < 32768
theorem Dgs.snoc {xs : List Nat} {y : Nat} (h : Dgs xs) (hy : y < 32768) : Dgs (xs ++ [y]) := by
  intro x hx
  rcases List.mem_append.1 hx with hx | hx
  · exact h x hx
  · simp at hx; omega
theorem Dgs.take {xs : List Nat} (h : Dgs xs) (k : Nat) : Dgs (xs.take k) := fun x hx => h x (List.mem_of_mem_take hx)
end Go.Proofs.YtgehfbcagaaggaaGreatDoor
end
section
namespace Go.Proofs.YtgehfbcagaaggaaGreatDoor
section
open Go.RowKit
set_option linter.unusedVariables false
set_option linter.unusedSimpArgs false
end
section
open Go.RowKit
set_option linter.unusedVariables false
set_option linter.unusedSimpArgs false
end
section
open Go.RowKit
set_option linter.unusedVariables false
set_option linter.unusedSimpArgs false
theorem belowB_drewN {B : Nat} {a w : World} (h : Below B a w) (n : Nat) : Below B a (w.drewN n) := ⟨h.os, h.tape, h.output, h.size, h.block⟩
/-- A row made whole. -/
theorem own_row {w : World} {base g n : Nat} {e : TypeId} {xs : List Value} (h : w.ownsRow base e 1 (.slice (some ⟨g, 0, none⟩) n n) n xs) : w.heap[g]? = some (.cells xs.toArray e (0, 0)) ∧ base ≤ g := by
  obtain ⟨hl, h⟩ := h
  rcases h with ⟨h1, _⟩ | ⟨g', cap, cur, hv, hb, hg, h1, h2, h3, h4⟩
  · simp at h1
  · simp only [Value.slice.injEq, Option.some.injEq, Addr.mk.injEq] at hv
    obtain ⟨⟨rfl, _⟩, _, rfl⟩ := hv
    refine ⟨?_, hb⟩
    have hc : cur = xs.toArray := by
      rw [← h4, List.take_of_length_le (by rw [Array.length_toList, h3]; exact Nat.le_refl _), Array.toArray_toList]
    rw [hg, hc]
theorem Dgs.set {L : List Nat} (h : Dgs L) (p y : Nat) (hy : y < 32768) : Dgs (L.set p y) := fun x hx => by
  rcases List.mem_or_eq_of_mem_set hx with h1 | h1
  · exact h x h1
  · omega
theorem Dgs.getD {L : List Nat} (h : Dgs L) (p : Nat) : L.getD p 0 < 32768 := by
  by_cases hp : p < L.length
  · rw [List.getD_eq_getElem?_getD, List.getElem?_eq_getElem hp]; exact h _ (List.getElem_mem hp)
  · rw [List.getD_eq_getElem?_getD, List.getElem?_eq_none (by omega)]; decide
end
end Go.Proofs.YtgehfbcagaaggaaGreatDoor
end
section
namespace Go.Proofs.YtgehfbcagaaggaaGreatDoor
open Go.RowKit
set_option linter.unusedVariables false
set_option linter.unusedSimpArgs false
theorem Sq.on6 {w w' : World} {A : Option Addr} {c : Nat} {xs : List Value} (h : Sq w w.heap.size A c xs) (hb : Below w.heap.size w w') : Sq w' w'.heap.size A c xs := (h.below hb).more hb.size
end Go.Proofs.YtgehfbcagaaggaaGreatDoor
end
