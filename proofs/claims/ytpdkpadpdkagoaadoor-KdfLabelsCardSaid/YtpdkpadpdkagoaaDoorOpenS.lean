/-
  Layer 2's statements: what the package's variables hold, out of the row's condition; arguments opened, with their capacities.
-/
import Derived.Test.YtpdkpadpdkagoaaDoorOpen
import Derived.Test.YtpdkpadpdkagoaaDoorTie
import Derived.Test.YtpdkpadpdkagoaaDoorCards
import Derived.Test.YtpdkpadpdkagoaaDoorShaT
import Derived.LaidMore
import Derived.Lib.LaidTab
import Derived.Stop.Joined
import Derived.SevenTiedAt
namespace Go.Proofs.YtpdkpadpdkagoaaDoor
open Go.RowKit Go.ChangeShapes Go.WideShapes
set_option linter.unusedVariables false
set_option linter.unusedSimpArgs false

def laidL : List (String × DataW Unit) := [("ratline/sha.beginnings", Rows.laid_ratline_sha_beginnings), ("ratline/sha.constants", Rows.laid_ratline_sha_constants)]
theorem gBeg : Tryd.prog.globalNamed "ratline/sha.beginnings" = some 0 := by kernel_rfl
theorem gCon : Tryd.prog.globalNamed "ratline/sha.constants" = some 1 := by kernel_rfl
theorem tBeg : (Tryd.prog.globals[0]?).map (·.type) = some 60 := by kernel_rfl
theorem tCon : (Tryd.prog.globals[1]?).map (·.type) = some 73 := by kernel_rfl
def ints (xs : List Nat) : List Int := xs.map fun x => ((x : Nat) : Int)
theorem datBeg : (Rows.laid_ratline_sha_beginnings : DataW Unit) = Lib.tabData .u32 (ints iv.list) := by kernel_rfl
theorem datCon : (Rows.laid_ratline_sha_constants : DataW Unit) = Lib.tabData .u32 (ints kTab) := by kernel_rfl
theorem ints_cells (xs : List Nat) : (ints xs).map (fun z => Value.int .u32 z) = wvs xs := by simp [ints, wvs]

theorem door_met (os : Os) (args : Array Value) : laidMetH Tryd.prog laidL ((World.doorLaid Tryd.prog 400 os).forCall (fun _ _ => 0) ⟨#[], args, []⟩).memory :=
  laidMetH_of_parts3 (fuel := 8) (laidMet_of_run' 8 (by kernel_rfl) (by kernel_rfl)) (by kernel_rfl) (by kernel_rfl)

/-- What the condition gives the walks. -/
theorem glob_of_laid {W : World} (h : laidMetH Tryd.prog laidL W) : Glob W := by
  rw [MakeChecks.laidMetH_plain _ _ _ (by kernel_rfl)] at h
  obtain ⟨ps, ⟨g0, t0, cs0, f0, p0, q0, hg0, ht0, hv0, hd0, ⟨g1, t1, cs1, f1, p1, q1, hg1, ht1, hv1, hd1, _, _⟩, _⟩, _, _⟩ := h
  obtain rfl := Option.some.inj (gBeg.symm.trans hg0)
  obtain rfl := Option.some.inj (gCon.symm.trans hg1)
  obtain rfl := Option.some.inj (tBeg.symm.trans ht0)
  obtain rfl := Option.some.inj (tCon.symm.trans ht1)
  rw [datBeg] at hd0
  rw [datCon] at hd1
  have h0 := Lib.cells_of_tab Tryd.underlying60 Tryd.underlying59 (by kernel_rfl) (by kernel_rfl) hd0
  have h1 := Lib.cells_of_tab Tryd.underlying73 Tryd.underlying59 (by kernel_rfl) (by kernel_rfl) hd1
  rw [ints_cells] at h0 h1
  have c0 : ∀ j v, (stA iv)[j]? = some v → W.cell? ⟨0, j, none⟩ = some v := fun j v hv => by
    rw [World.var?_cell hg0 hv0 j, ← Array.getElem?_toList, h0]
    rw [stA, List.getElem?_toArray] at hv
    exact hv
  have c1 : ∀ j, j < 64 → W.cell? ⟨1, j, none⟩ = some (.int .u32 ((kTab.getD j 0 : Nat) : Int)) := fun j hj => by
    rw [World.var?_cell hg1 hv1 j, ← Array.getElem?_toList, h1, wvs, List.getElem?_map, List.getD_eq_getElem?_getD, List.getElem?_eq_getElem (by rw [kTab_length]; exact hj)]
    rfl
  exact ⟨c1, c0, World.block_lt_of_cell? W _ (c1 0 (by omega)), World.block_lt_of_cell? W _ (c0 0 _ rfl)⟩

section
variable {H : Type} {enc : TypeId × Value → H} {w : World} {base : Nat} {spare : Nat → Bool} {held : Bool}
theorem open_bytes_sq {fuel : Nat} {cs : List Value} {x : DataW H × List MemPlace} (h : DataW.trod enc Tryd.prog w base spare held fuel 22 cs = some x) :
    ∃ A c xs, cs = [.slice A xs.length c] ∧ Sq w w.heap.size A c (bvs xs) := by
  obtain ⟨A, c, xs, h1, h2, h3, h4⟩ := open_bytes h
  exact ⟨A, c, xs, h1, h2.sq (by rw [bvs_length]; exact h3) h4⟩
theorem open_rows2' {fuel : Nat} {cs : List Value} {x : DataW H × List MemPlace} (h : DataW.trod enc Tryd.prog w base spare held fuel 41 cs = some x) :
    ∃ A c ls, cs = [.slice A ls.length c] ∧ Rows2' w w.heap.size A ls ∧ ls.length ≤ 9223372036854775807 := by
  rcases Go.Deep.open_slice1 Tryd.underlying41 (by kernel_rfl) h with ⟨rfl, _⟩ | ⟨a, len, cap, m, n, V, D, Pl, rfl, _, hl, hm, hmm, _, hi⟩
  · exact ⟨none, 0, [], rfl, Rows2'.none _ _, by simp⟩
  · have hlen : len ≤ m := by rw [hmm]; split <;> omega
    obtain ⟨f, hf⟩ := Go.Deep.choose_lt (α := List UInt8) (n := len) (p := fun i xs => ∃ A c, V i = .slice A xs.length c ∧ Sq w w.heap.size A c (bvs xs)) (fun i hil => by
      obtain ⟨_, ht⟩ := hi i (by omega)
      obtain ⟨A, c, xs, hv, hL⟩ := open_bytes_sq ht
      exact ⟨xs, A, c, by simpa using hv, hL⟩)
    refine ⟨some a, cap, (List.range len).map f, by simp, ⟨(List.range len).map V, by simp, lie_of_cells ?_, ?_⟩, by simp [maxLen] at hm ⊢; omega⟩
    · intro j u hu
      have hj : j < len := by simpa using (List.getElem?_eq_some_iff.1 hu).1
      rw [(hi j (by omega)).1]
      simpa [hj] using hu
    · intro j y hy
      have hj : j < len := by simpa using (List.getElem?_eq_some_iff.1 hy).1
      obtain ⟨A, c, hv, hL⟩ := hf j hj
      have hy2 : f j = y := by simpa [hj] using hy
      subst hy2
      exact ⟨A, c, by simp [hj, hv], hL⟩
end
end Go.Proofs.YtpdkpadpdkagoaaDoor
