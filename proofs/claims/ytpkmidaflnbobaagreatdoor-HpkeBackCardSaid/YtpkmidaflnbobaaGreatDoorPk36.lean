/-
  Texts of this claim in one file: OpenB, OpenS.
-/
import Derived.Test.YtpkmidaflnbobaaGreatDoorRows
import Derived.Test.YtpkmidaflnbobaaGreatDoorPk37
import Derived.Test.YtpkmidaflnbobaaGreatDoorPk39
import Derived.ProofKit
import Derived.OpenShut
import Derived.ShutString
import Derived.ChangeOld
import Derived.Deep.Slices
import Derived.Deep.Fields
import Derived.Test.YtpkmidaflnbobaaGreatDoorTie
import Derived.Test.YtpkmidaflnbobaaGreatDoorCards
import Derived.Test.YtpkmidaflnbobaaGreatDoorPk5
import Derived.LaidMore
import Derived.Lib.LaidTab
import Derived.Stop.Joined
import Derived.SevenTiedAt
section
namespace Go.Proofs.YtpkmidaflnbobaaGreatDoor
open Go.RowKit Go.ChangeShapes Go.WideShapes
set_option linter.unusedVariables false
set_option linter.unusedSimpArgs false
section
variable {H : Type} {enc : TypeId × Value → H} {w : World} {base : Nat} {spare : Nat → Bool} {held : Bool}
theorem spot_none {w : World} {a : Addr} {v : Value} (h : w.cell? a = some v) : a.spot = none := World.cell?_spot h
/-- An address at which a cell is read has no spot, where it is the j-th from a. -/
theorem lie_of_cells {cs : List Value} {a : Addr} (h : ∀ j u, cs[j]? = some u → w.cell? (a.add j) = some u) : Lie w w.heap.size (some a) cs := fun hn => by
  obtain ⟨b, o, sp⟩ := a
  have h0 := h 0 (cs[0]'(List.length_pos_iff.2 hn)) (List.getElem?_eq_getElem _)
  have hs : sp = none := by simpa [Addr.add] using spot_none h0
  subst hs
  have hlt := World.block_lt_of_cell? w _ h0
  rw [add_none] at hlt
  exact ⟨b, o, rfl, hlt, fun j u hu => by have := h j u hu; rwa [add_none] at this⟩
theorem open_bytes {fuel : Nat} {cs : List Value} {x : DataW H × List MemPlace} (h : DataW.trod enc Tryz.prog w base spare held fuel 22 cs = some x) :
    ∃ A c xs, cs = [.slice A xs.length c] ∧ Lie w w.heap.size A (bvs xs) ∧ xs.length ≤ c ∧ c ≤ 9223372036854775807 := by
  rcases open_ints Tryz.underlying22 Tryz.underlying5 (by kernel_rfl) h with ⟨rfl, _⟩ | ⟨a, len, cap, zs, rfl, _, hl, hm, hz, _, hcell, hwf⟩
  · exact ⟨none, 0, [], rfl, Lie.nil, by simp, by omega⟩
  · have hlen : len ≤ zs.length := by rw [hz]; split <;> omega
    have hx : ((zs.take len).map fun z => UInt8.ofNat z.toNat).length = len := by simp; omega
    refine ⟨some a, cap, (zs.take len).map fun z => UInt8.ofNat z.toNat, by rw [hx], lie_of_cells ?_, by rw [hx]; exact hl, by simpa [maxLen] using hm⟩
    intro j u hu
    have hj : j < len := by
      have := (List.getElem?_eq_some_iff.1 hu).1
      rw [bvs_length, hx] at this
      exact this
    have hjz : j < zs.length := by omega
    rw [hcell j hjz]
    have hw := bounds_u8 (hwf zs[j] (List.getElem_mem hjz))
    have hb : (((UInt8.ofNat zs[j].toNat).toNat : Nat) : Int) = zs[j] := by
      simp only [UInt8.toNat_ofNat']
      omega
    simp only [bvs, List.getElem?_map, List.getElem?_take, if_pos hj, List.getElem?_eq_getElem hjz, Option.map_some, Option.some.injEq] at hu
    rw [← hu, hb]
    simp [hjz]
end
end Go.Proofs.YtpkmidaflnbobaaGreatDoor
end
section
namespace Go.Proofs.YtpkmidaflnbobaaGreatDoor
open Go.RowKit Go.ChangeShapes Go.WideShapes
set_option linter.unusedVariables false
set_option linter.unusedSimpArgs false
def laidL : List (String × DataW Unit) := [("ratline/sha.beginnings", Rows.laid_ratline_sha_beginnings), ("ratline/sha.constants", Rows.laid_ratline_sha_constants)]
theorem gBeg : Tryz.prog.globalNamed "ratline/sha.beginnings" = some 0 := by kernel_rfl
theorem gCon : Tryz.prog.globalNamed "ratline/sha.constants" = some 1 := by kernel_rfl
theorem tBeg : (Tryz.prog.globals[0]?).map (·.type) = some 125 := by kernel_rfl
theorem tCon : (Tryz.prog.globals[1]?).map (·.type) = some 138 := by kernel_rfl
def ints (xs : List Nat) : List Int := xs.map fun x => ((x : Nat) : Int)
theorem datBeg : (Rows.laid_ratline_sha_beginnings : DataW Unit) = Lib.tabData .u32 (ints iv.list) := by kernel_rfl
theorem datCon : (Rows.laid_ratline_sha_constants : DataW Unit) = Lib.tabData .u32 (ints kTab) := by kernel_rfl
theorem ints_cells (xs : List Nat) : (ints xs).map (fun z => Value.int .u32 z) = wvs xs := by simp [ints, wvs]
theorem door_met (os : Os) (args : Array Value) : laidMetH Tryz.prog laidL ((World.doorLaid Tryz.prog 400 os).forCall (fun _ _ => 0) ⟨#[], args, []⟩).memory :=
  laidMetH_of_parts3 (fuel := 8) (laidMet_of_run' 8 (by kernel_rfl) (by kernel_rfl)) (by kernel_rfl) (by kernel_rfl)
/-- What the condition gives the walks. -/
theorem glob_of_laid {W : World} (h : laidMetH Tryz.prog laidL W) : Glob W := by
  rw [MakeChecks.laidMetH_plain _ _ _ (by kernel_rfl)] at h
  obtain ⟨ps, ⟨g0, t0, cs0, f0, p0, q0, hg0, ht0, hv0, hd0, ⟨g1, t1, cs1, f1, p1, q1, hg1, ht1, hv1, hd1, _, _⟩, _⟩, _, _⟩ := h
  obtain rfl := Option.some.inj (gBeg.symm.trans hg0)
  obtain rfl := Option.some.inj (gCon.symm.trans hg1)
  obtain rfl := Option.some.inj (tBeg.symm.trans ht0)
  obtain rfl := Option.some.inj (tCon.symm.trans ht1)
  rw [datBeg] at hd0
  rw [datCon] at hd1
  have h0 := Lib.cells_of_tab Tryz.underlying125 Tryz.underlying78 (by kernel_rfl) (by kernel_rfl) hd0
  have h1 := Lib.cells_of_tab Tryz.underlying138 Tryz.underlying78 (by kernel_rfl) (by kernel_rfl) hd1
  rw [ints_cells] at h0 h1
  have c0 : ∀ j v, (stA iv)[j]? = some v → W.cell? ⟨0, j, none⟩ = some v := fun j v hv => by
    rw [World.var?_cell hg0 hv0 j, ← Array.getElem?_toList, h0]
    rw [stA, List.getElem?_toArray] at hv
    exact hv
  have c1 : ∀ j, j < 64 → W.cell? ⟨1, j, none⟩ = some (.int .u32 ((kTab.getD j 0 : Nat) : Int)) := fun j hj => by
    rw [World.var?_cell hg1 hv1 j, ← Array.getElem?_toList, h1, wvs, List.getElem?_map, List.getD_eq_getElem?_getD, List.getElem?_eq_getElem (by rw [kTab_length]; exact hj)]
    rfl
  exact ⟨c1, c0, World.block_lt_of_cell? W _ (c1 0 (by omega)), World.block_lt_of_cell? W _ (c0 0 _ rfl)⟩
section
variable {H : Type} {enc : TypeId × Value → H} {w : World} {base : Nat} {spare : Nat → Bool} {held : Bool}
theorem open_bytes_sq {fuel : Nat} {cs : List Value} {x : DataW H × List MemPlace} (h : DataW.trod enc Tryz.prog w base spare held fuel 22 cs = some x) :
    ∃ A c xs, cs = [.slice A xs.length c] ∧ Sq w w.heap.size A c (bvs xs) := by
  obtain ⟨A, c, xs, h1, h2, h3, h4⟩ := open_bytes h
  exact ⟨A, c, xs, h1, h2.sq (by rw [bvs_length]; exact h3) h4⟩
end
end Go.Proofs.YtpkmidaflnbobaaGreatDoor
end
