/-
  Texts of this claim in one file: CvI, CvM.
-/
import Derived.Test.YtheamlhhfkaknaaGreatDoorPk19
import Derived.Test.YtheamlhhfkaknaaGreatDoorPk1
section
namespace Go.Proofs.YtheamlhhfkaknaaGreatDoor
open Go Go.RowKit
set_option linter.unusedVariables false
set_option linter.unusedSimpArgs false
/-- A row of cells tells a point, as the code holds it: its x, and how much its y is above 1. -/
structure PtV (v : Array Value) (p : Pt) : Prop where
  on : p.on
  is : v = cP p.x (p.y - 1)
theorem PtV.info {v : Array Value} {p : Pt} (h : PtV v p) : (Tryz.prog.info? PT).map (·.size) = some v.size := by rw [h.is]; exact infoPc _ _
theorem PtV.one {v : Array Value} {p : Pt} (h : PtV v p) : v.all (·.oneCell') = true := by rw [h.is]; exact cP_one _ _
theorem PtV.all {v : Array Value} {p : Pt} (h : PtV v p) : v.extract 0 (0 + v.size) = v := by simp
/-- A zero P. -/
def zP : Array Value := cP 0 0
theorem zeroP : (Tryz.prog.info? PT).map (fun i => (i.zero, i.size)) = some (some (.agg zP), 8) := zeroPc
theorem PtV.size {v : Array Value} {p : Pt} (h : PtV v p) : zP.size = v.size := by rw [h.is]; exact (cP_size _ _).trans (cP_size _ _).symm
/-- A call that answers a point. -/
abbrev PtC (f : FuncId) (args : Array Value) (p : Pt) : Prop := ∃ u, PtV u p ∧ Hid (∀ W : World, Calls Tryz.prog f args W fun e w' => e = .returned (.agg u) ∧ Below W.heap.size W w')
theorem sub_one_add (y : FF) : y = y - 1 + 1 := by grobner
theorem CvBase : PtC 14 #[] Gb := ⟨_, ⟨Gb_on, rfl⟩, baseC rfl⟩
theorem CvBytes {v : Array Value} {p : Pt} (hv : PtV v p) : Hid (∀ W : World, Calls Tryz.prog 18 #[.agg v] W fun e w' => ∃ b, e = .returned b ∧ OwnB w' W.heap.size b (pB p) ∧ Below W.heap.size W w') := by
  obtain ⟨hp, rfl⟩ := hv
  exact bytesC (sub_one_add _)
end Go.Proofs.YtheamlhhfkaknaaGreatDoor
end
section
namespace Go.Proofs.YtheamlhhfkaknaaGreatDoor
open Go Go.RowKit
theorem CvMul {v : Array Value} {p : Pt} (hv : PtV v p) (n : SF) : PtC 15 #[.agg v, .agg (sF n)] (Pt.times n.val p) := by
  obtain ⟨hp, rfl⟩ := hv
  exact ⟨_, ⟨Pt.times_on hp _, rfl⟩, hid fun W => mulC hp rfl rfl n W⟩
end Go.Proofs.YtheamlhhfkaknaaGreatDoor
end
