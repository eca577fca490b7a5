/-
  Layer 3's statements: what the package's variables hold, out of the row's condition.
-/
import Derived.Test.YtankjblkiekmmaaDoorOpenS
import Derived.Test.YtankjblkiekmmaaDoorLaw03a
namespace Go.Proofs.YtankjblkiekmmaaDoor
open Go.RowKit Go.ChangeShapes Go.WideShapes
set_option linter.unusedVariables false
set_option linter.unusedSimpArgs false

def laidLong : List (String × DataW Unit) := [("ratline/long.beginnings", Rows.laid_ratline_long_beginnings), ("ratline/long.constants", Rows.laid_ratline_long_constants)]
theorem gBegL : Tryd.prog.globalNamed "ratline/long.beginnings" = some 2 := by kernel_rfl
theorem gConL : Tryd.prog.globalNamed "ratline/long.constants" = some 3 := by kernel_rfl
theorem tBegL : (Tryd.prog.globals[2]?).map (·.type) = some 76 := by kernel_rfl
theorem tConL : (Tryd.prog.globals[3]?).map (·.type) = some 86 := by kernel_rfl
theorem datBegL : (Rows.laid_ratline_long_beginnings : DataW Unit) = Lib.tabData .u64 (ints ivL.list) := by kernel_rfl
theorem datConL : (Rows.laid_ratline_long_constants : DataW Unit) = Lib.tabData .u64 (ints kTabL) := by kernel_rfl
theorem ints_cellsL (xs : List Nat) : (ints xs).map (fun z => Value.int .u64 z) = uvs xs := by simp [ints, uvs]

theorem door_metL (os : Os) (args : Array Value) : laidMetH Tryd.prog laidLong ((World.doorLaid Tryd.prog 400 os).forCall (fun _ _ => 0) ⟨#[], args, []⟩).memory :=
  laidMetH_of_parts3 (fuel := 8) (laidMet_of_run' 8 (by kernel_rfl) (by kernel_rfl)) (by kernel_rfl) (by kernel_rfl)

/-- What the condition gives the walks. -/
theorem globL_of_laid {W : World} (h : laidMetH Tryd.prog laidLong W) : GlobL W := by
  rw [MakeChecks.laidMetH_plain _ _ _ (by kernel_rfl)] at h
  obtain ⟨ps, ⟨g0, t0, cs0, f0, p0, q0, hg0, ht0, hv0, hd0, ⟨g1, t1, cs1, f1, p1, q1, hg1, ht1, hv1, hd1, _, _⟩, _⟩, _, _⟩ := h
  obtain rfl := Option.some.inj (gBegL.symm.trans hg0)
  obtain rfl := Option.some.inj (gConL.symm.trans hg1)
  obtain rfl := Option.some.inj (tBegL.symm.trans ht0)
  obtain rfl := Option.some.inj (tConL.symm.trans ht1)
  rw [datBegL] at hd0
  rw [datConL] at hd1
  have h0 := Lib.cells_of_tab Tryd.underlying76 Tryd.underlying41 (by kernel_rfl) (by kernel_rfl) hd0
  have h1 := Lib.cells_of_tab Tryd.underlying86 Tryd.underlying41 (by kernel_rfl) (by kernel_rfl) hd1
  rw [ints_cellsL] at h0 h1
  have c0 : ∀ j v, (stL ivL)[j]? = some v → W.cell? ⟨2, j, none⟩ = some v := fun j v hv => by
    rw [World.var?_cell hg0 hv0 j, ← Array.getElem?_toList, h0]
    rw [stL, List.getElem?_toArray] at hv
    exact hv
  have c1 : ∀ j, j < 80 → W.cell? ⟨3, j, none⟩ = some (.int .u64 ((kTabL.getD j 0 : Nat) : Int)) := fun j hj => by
    rw [World.var?_cell hg1 hv1 j, ← Array.getElem?_toList, h1, uvs, List.getElem?_map, List.getD_eq_getElem?_getD, List.getElem?_eq_getElem (by rw [kTabL_length]; exact hj)]
    rfl
  exact ⟨c1, c0, World.block_lt_of_cell? W _ (c1 0 (by omega)), World.block_lt_of_cell? W _ (c0 0 _ rfl)⟩
end Go.Proofs.YtankjblkiekmmaaDoor
