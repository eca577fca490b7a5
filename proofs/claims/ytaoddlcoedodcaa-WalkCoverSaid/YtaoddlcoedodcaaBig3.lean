/-
  The document's numbers of any size (package ratlineref02): noughts cut off, a digit, a number's digits.
  The document's numbers of any size: compared, added, powers of 2.
  The document's numbers of any size: powers of 2, products.
-/
import Derived.Test.YtaoddlcoedodcaaShaS
import Derived.Test.YtaoddlcoedodcaaBigP
import Derived.StillTailTactics
import Derived.Deep.QuietTactic
import Derived.BigQuiet
import Derived.Test.YtaoddlcoedodcaaBase
namespace Go.Proofs.Ytaoddlcoedodcaa
section
open Go.RowKit
set_option linter.unusedVariables false
set_option linter.unusedSimpArgs false
theorem infoI64 : (Try.prog.info? 3).map (fun i => (i.zero, i.size, i.bytes)) = some (some (.int .i64 0), 1, 8) := by kernel_rfl
/-- Digits as cells. -/
def ivs (xs : List Nat) : List Value := xs.map fun x => Value.int .i64 ((x : Nat) : Int)
@[simp] theorem ivs_length (xs : List Nat) : (ivs xs).length = xs.length := by simp [ivs]
theorem ivs_one (xs : List Nat) : ∀ u ∈ ivs xs, u.oneCell' = true := by
  intro u hu
  simp only [ivs, List.mem_map] at hu
  obtain ⟨x, _, rfl⟩ := hu
  rfl
/-- The call owns the digits xs. -/
def OwnI (w : World) (B : Nat) (v : Value) (xs : List Nat) : Prop := w.ownsRow B 3 1 v xs.length (ivs xs)
theorem owni_snoc {w : World} {B : Nat} {v : Value} {xs : List Nat} {n y : Nat} {z : Int} (h : w.ownsRow B 3 1 v n (ivs xs ++ [.int .i64 z])) (hn : n = xs.length + 1) (hz : z = (y : Int)) : OwnI w B v (xs ++ [y]) := by
  subst hn
  subst hz
  simpa [OwnI, ivs] using h
theorem owni_nil (w : World) (B : Nat) : OwnI w B (.slice none 0 0) [] := ⟨rfl, .inl ⟨rfl, rfl⟩⟩
end
section
open Go.RowKit
set_option linter.unusedVariables false
set_option linter.unusedSimpArgs false
end
section
open Go.RowKit
set_option linter.unusedVariables false
set_option linter.unusedSimpArgs false
theorem belowB_drewN {B : Nat} {a w : World} (h : Below B a w) (n : Nat) : Below B a (w.drewN n) := ⟨h.os, h.tape, h.output, h.size, h.block⟩
/-- A row made whole. -/
theorem own_row {w : World} {base g n : Nat} {e : TypeId} {xs : List Value} (h : w.ownsRow base e 1 (.slice (some ⟨g, 0, none⟩) n n) n xs) : w.heap[g]? = some (.cells xs.toArray e (0, 0)) ∧ base ≤ g := by
  obtain ⟨hl, h⟩ := h
  rcases h with ⟨h1, _⟩ | ⟨g', cap, cur, hv, hb, hg, h1, h2, h3, h4⟩
  · simp at h1
  · simp only [Value.slice.injEq, Option.some.injEq, Addr.mk.injEq] at hv
    obtain ⟨⟨rfl, _⟩, _, rfl⟩ := hv
    refine ⟨?_, hb⟩
    have hc : cur = xs.toArray := by
      rw [← h4, List.take_of_length_le (by rw [Array.length_toList, h3]; exact Nat.le_refl _), Array.toArray_toList]
    rw [hg, hc]
theorem ivs_zeros (n : Nat) : ivs (List.replicate n 0) = List.replicate n (Value.int .i64 0) := by simp [ivs]
theorem ivs_set (L : List Nat) (p y : Nat) : (ivs L).toArray.setIfInBounds p (Value.int .i64 ((y : Nat) : Int)) = (ivs (L.set p y)).toArray := by
  simp [ivs, List.map_set]
theorem ivs_cell {w : World} {g : Nat} {t : TypeId} {L : List Nat} (h : w.heap[g]? = some (.cells (ivs L).toArray t (0, 0))) (k : Nat) (hk : k < L.length) : w.cell? ⟨g, k, none⟩ = some (.int .i64 ((L.getD k 0 : Nat) : Int)) :=
  cell_of h k _ (by rw [List.getElem?_toArray, ivs, List.getElem?_map, List.getElem?_eq_getElem hk, List.getD_eq_getElem?_getD, List.getElem?_eq_getElem hk]; rfl)
theorem Dgs.set {L : List Nat} (h : Dgs L) (p y : Nat) (hy : y < 32768) : Dgs (L.set p y) := fun x hx => by
  rcases List.mem_or_eq_of_mem_set hx with h1 | h1
  · exact h x h1
  · omega
theorem Dgs.getD {L : List Nat} (h : Dgs L) (p : Nat) : L.getD p 0 < 32768 := by
  by_cases hp : p < L.length
  · rw [List.getD_eq_getElem?_getD, List.getElem?_eq_getElem hp]; exact h _ (List.getElem_mem hp)
  · rw [List.getD_eq_getElem?_getD, List.getElem?_eq_none (by omega)]; decide
end
end Go.Proofs.Ytaoddlcoedodcaa
