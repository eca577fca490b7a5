/-
  Texts of this claim in one file: OpenB.
-/
import Derived.Test.YtojlmlmjmlbjmaaRows
import Derived.Test.YtojlmlmjmlbjmaaPk22
import Derived.Test.YtojlmlmjmlbjmaaPk23
import Derived.ProofKit
import Derived.OpenShut
import Derived.ShutString
import Derived.ChangeOld
import Derived.Deep.Slices
import Derived.Deep.Fields
section
namespace Go.Proofs.Ytojlmlmjmlbjmaa
open Go.RowKit Go.ChangeShapes Go.WideShapes
set_option linter.unusedVariables false
set_option linter.unusedSimpArgs false
section
variable {H : Type} {enc : TypeId × Value → H} {w : World} {base : Nat} {spare : Nat → Bool} {held : Bool}
theorem spot_none {w : World} {a : Addr} {v : Value} (h : w.cell? a = some v) : a.spot = none := World.cell?_spot h
/-- An address at which a cell is read has no spot, where it is the j-th from a. -/
theorem lie_of_cells {cs : List Value} {a : Addr} (h : ∀ j u, cs[j]? = some u → w.cell? (a.add j) = some u) : Lie w w.heap.size (some a) cs := fun hn => by
  obtain ⟨b, o, sp⟩ := a
  have h0 := h 0 (cs[0]'(List.length_pos_iff.2 hn)) (List.getElem?_eq_getElem _)
  have hs : sp = none := by simpa [Addr.add] using spot_none h0
  subst hs
  have hlt := World.block_lt_of_cell? w _ h0
  rw [add_none] at hlt
  exact ⟨b, o, rfl, hlt, fun j u hu => by have := h j u hu; rwa [add_none] at this⟩
theorem open_bytes {fuel : Nat} {cs : List Value} {x : DataW H × List MemPlace} (h : DataW.trod enc Try.prog w base spare held fuel 22 cs = some x) :
    ∃ A c xs, cs = [.slice A xs.length c] ∧ Lie w w.heap.size A (bvs xs) ∧ xs.length ≤ c ∧ c ≤ 9223372036854775807 := by
  rcases open_ints Try.underlying22 Try.underlying5 (by kernel_rfl) h with ⟨rfl, _⟩ | ⟨a, len, cap, zs, rfl, _, hl, hm, hz, _, hcell, hwf⟩
  · exact ⟨none, 0, [], rfl, Lie.nil, by simp, by omega⟩
  · have hlen : len ≤ zs.length := by rw [hz]; split <;> omega
    have hx : ((zs.take len).map fun z => UInt8.ofNat z.toNat).length = len := by simp; omega
    refine ⟨some a, cap, (zs.take len).map fun z => UInt8.ofNat z.toNat, by rw [hx], lie_of_cells ?_, by rw [hx]; exact hl, by simpa [maxLen] using hm⟩
    intro j u hu
    have hj : j < len := by
      have := (List.getElem?_eq_some_iff.1 hu).1
      rw [bvs_length, hx] at this
      exact this
    have hjz : j < zs.length := by omega
    rw [hcell j hjz]
    have hw := bounds_u8 (hwf zs[j] (List.getElem_mem hjz))
    have hb : (((UInt8.ofNat zs[j].toNat).toNat : Nat) : Int) = zs[j] := by
      simp only [UInt8.toNat_ofNat']
      omega
    simp only [bvs, List.getElem?_map, List.getElem?_take, if_pos hj, List.getElem?_eq_getElem hjz, Option.map_some, Option.some.injEq] at hu
    rw [← hu, hb]
    simp [hjz]
theorem open_bytes_q {fuel : Nat} {cs : List Value} {x : DataW H × List MemPlace} (h : DataW.trod enc Try.prog w base spare held fuel 22 cs = some x) :
    ∃ A c xs, cs = [.slice A xs.length c] ∧ Sq w w.heap.size A c (bvs xs) := by
  obtain ⟨A, c, xs, h1, h2, h3, h4⟩ := open_bytes h
  exact ⟨A, c, xs, h1, h2.sq (by rw [bvs_length]; exact h3) h4⟩
end
end Go.Proofs.Ytojlmlmjmlbjmaa
end
