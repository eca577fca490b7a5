/-
  Texts of this claim in one file: OpenB, OpenI.
-/
import Derived.Test.YtmipocpajglbaaaRows
import Derived.Test.YtmipocpajglbaaaPk13
import Derived.Test.YtmipocpajglbaaaPk14
import Derived.ProofKit
import Derived.OpenShut
import Derived.ShutString
import Derived.ChangeOld
import Derived.Deep.Slices
import Derived.Deep.Fields
import Derived.Test.YtmipocpajglbaaaPk8
section
namespace Go.Proofs.Ytmipocpajglbaaa
open Go.RowKit Go.ChangeShapes Go.WideShapes
set_option linter.unusedVariables false
set_option linter.unusedSimpArgs false
section
variable {H : Type} {enc : TypeId × Value → H} {w : World} {base : Nat} {spare : Nat → Bool} {held : Bool}
theorem spot_none {w : World} {a : Addr} {v : Value} (h : w.cell? a = some v) : a.spot = none := World.cell?_spot h
/-- An address at which a cell is read has no spot, where it is the j-th from a. -/
theorem lie_of_cells {cs : List Value} {a : Addr} (h : ∀ j u, cs[j]? = some u → w.cell? (a.add j) = some u) : Lie w w.heap.size (some a) cs := fun hn => by
  obtain ⟨b, o, sp⟩ := a
  have h0 := h 0 (cs[0]'(List.length_pos_iff.2 hn)) (List.getElem?_eq_getElem _)
  have hs : sp = none := by simpa [Addr.add] using spot_none h0
  subst hs
  have hlt := World.block_lt_of_cell? w _ h0
  rw [add_none] at hlt
  exact ⟨b, o, rfl, hlt, fun j u hu => by have := h j u hu; rwa [add_none] at this⟩
end
end Go.Proofs.Ytmipocpajglbaaa
end
section
namespace Go.Proofs.Ytmipocpajglbaaa
open Go Go.RowKit Go.ChangeShapes Go.WideShapes
set_option linter.unusedVariables false
set_option linter.unusedSimpArgs false
section
variable {H : Type} {enc : TypeId × Value → H} {w : World} {base : Nat} {spare : Nat → Bool} {held : Bool}
theorem open_nums {fuel : Nat} {cs : List Value} {x : DataW H × List MemPlace} (h : DataW.trod enc Try.prog w base spare held fuel 39 cs = some x) :
    ∃ A c xs, cs = [.slice A xs.length c] ∧ Sq w w.heap.size A c (izs xs) ∧ (∀ y ∈ xs, I64 y) := by
  rcases open_ints Try.underlying39 Try.underlying3 (by kernel_rfl) h with ⟨rfl, _⟩ | ⟨a, len, cap, zs, rfl, _, hl, hm, hz, _, hcell, hwf⟩
  · exact ⟨none, 0, [], rfl, Sq.nil, fun y hy => by simp at hy⟩
  · have hlen : len ≤ zs.length := by rw [hz]; split <;> omega
    have hx : (zs.take len).length = len := by rw [List.length_take]; omega
    have hm2 : cap ≤ 9223372036854775807 := by unfold maxLen at hm; omega
    have hlie : Lie w w.heap.size (some a) (izs (zs.take len)) := lie_of_cells (by
      intro j u hu
      have hj : j < len := by
        have := (List.getElem?_eq_some_iff.1 hu).1
        rw [izs_length, hx] at this
        exact this
      have hjz : j < zs.length := by omega
      rw [hcell j hjz]
      simp only [izs, List.getElem?_map, List.getElem?_take, if_pos hj, List.getElem?_eq_getElem hjz, Option.map_some, Option.some.injEq] at hu
      rw [← hu]
      simp [hjz])
    refine ⟨some a, cap, zs.take len, by rw [hx], hlie.sq (by rw [izs_length, hx]; exact hl) (by omega), fun y hy => bounds_i64 (hwf y (List.mem_of_mem_take hy))⟩
end
end Go.Proofs.Ytmipocpajglbaaa
end
