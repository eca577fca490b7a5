/-
  Texts of this claim in one file: OpenB, OpenS, OpenL, OpenF, OpenLf.
-/
import Derived.Test.YtgehfbcagaaggaaGreatDoorRows
import Derived.Test.YtgehfbcagaaggaaGreatDoorPk30
import Derived.Test.YtgehfbcagaaggaaGreatDoorPk31
import Derived.ProofKit
import Derived.OpenShut
import Derived.ShutString
import Derived.ChangeOld
import Derived.Deep.Slices
import Derived.Deep.Fields
import Derived.Test.YtgehfbcagaaggaaGreatDoorTie
import Derived.Test.YtgehfbcagaaggaaGreatDoorCards
import Derived.Test.YtgehfbcagaaggaaGreatDoorPk12
import Derived.LaidMore
import Derived.Lib.LaidTab
import Derived.Stop.Joined
import Derived.SevenTiedAt
import Derived.Test.YtgehfbcagaaggaaGreatDoorPk15
import Derived.Test.YtgehfbcagaaggaaGreatDoorPk42
import Derived.Test.YtgehfbcagaaggaaGreatDoorPk13
import Derived.Shelf.Bits.Mul64
import Derived.Laws.Externs
import Derived.Test.YtgehfbcagaaggaaGreatDoorPk32
import Derived.Test.YtgehfbcagaaggaaGreatDoorPk21
section
namespace Go.Proofs.YtgehfbcagaaggaaGreatDoor
open Go.RowKit Go.ChangeShapes Go.WideShapes
set_option linter.unusedVariables false
set_option linter.unusedSimpArgs false
section
variable {H : Type} {enc : TypeId × Value → H} {w : World} {base : Nat} {spare : Nat → Bool} {held : Bool}
theorem spot_none {w : World} {a : Addr} {v : Value} (h : w.cell? a = some v) : a.spot = none := World.cell?_spot h
/-- An address at which a cell is read has no spot, where it is the j-th from a. -/
theorem lie_of_cells {cs : List Value} {a : Addr} (h : ∀ j u, cs[j]? = some u → w.cell? (a.add j) = some u) : Lie w w.heap.size (some a) cs := fun hn => by
  obtain ⟨b, o, sp⟩ := a
  have h0 := h 0 (cs[0]'(List.length_pos_iff.2 hn)) (List.getElem?_eq_getElem _)
  have hs : sp = none := by simpa [Addr.add] using spot_none h0
  subst hs
  have hlt := World.block_lt_of_cell? w _ h0
  rw [add_none] at hlt
  exact ⟨b, o, rfl, hlt, fun j u hu => by have := h j u hu; rwa [add_none] at this⟩
theorem open_bytes {fuel : Nat} {cs : List Value} {x : DataW H × List MemPlace} (h : DataW.trod enc Tryz.prog w base spare held fuel 22 cs = some x) :
    ∃ A c xs, cs = [.slice A xs.length c] ∧ Lie w w.heap.size A (bvs xs) ∧ xs.length ≤ c ∧ c ≤ 9223372036854775807 := by
  rcases open_ints Tryz.underlying22 Tryz.underlying5 (by kernel_rfl) h with ⟨rfl, _⟩ | ⟨a, len, cap, zs, rfl, _, hl, hm, hz, _, hcell, hwf⟩
  · exact ⟨none, 0, [], rfl, Lie.nil, by simp, by omega⟩
  · have hlen : len ≤ zs.length := by rw [hz]; split <;> omega
    have hx : ((zs.take len).map fun z => UInt8.ofNat z.toNat).length = len := by simp; omega
    refine ⟨some a, cap, (zs.take len).map fun z => UInt8.ofNat z.toNat, by rw [hx], lie_of_cells ?_, by rw [hx]; exact hl, by simpa [maxLen] using hm⟩
    intro j u hu
    have hj : j < len := by
      have := (List.getElem?_eq_some_iff.1 hu).1
      rw [bvs_length, hx] at this
      exact this
    have hjz : j < zs.length := by omega
    rw [hcell j hjz]
    have hw := bounds_u8 (hwf zs[j] (List.getElem_mem hjz))
    have hb : (((UInt8.ofNat zs[j].toNat).toNat : Nat) : Int) = zs[j] := by
      simp only [UInt8.toNat_ofNat']
      omega
    simp only [bvs, List.getElem?_map, List.getElem?_take, if_pos hj, List.getElem?_eq_getElem hjz, Option.map_some, Option.some.injEq] at hu
    rw [← hu, hb]
    simp [hjz]
theorem open_bytes_q {fuel : Nat} {cs : List Value} {x : DataW H × List MemPlace} (h : DataW.trod enc Tryz.prog w base spare held fuel 22 cs = some x) :
    ∃ A c xs, cs = [.slice A xs.length c] ∧ Sq w w.heap.size A c (bvs xs) := by
  obtain ⟨A, c, xs, h1, h2, h3, h4⟩ := open_bytes h
  exact ⟨A, c, xs, h1, h2.sq (by rw [bvs_length]; exact h3) h4⟩
end
end Go.Proofs.YtgehfbcagaaggaaGreatDoor
end
section
namespace Go.Proofs.YtgehfbcagaaggaaGreatDoor
open Go.RowKit Go.ChangeShapes Go.WideShapes
set_option linter.unusedVariables false
set_option linter.unusedSimpArgs false
def ints (xs : List Nat) : List Int := xs.map fun x => ((x : Nat) : Int)
section
variable {H : Type} {enc : TypeId × Value → H} {w : World} {base : Nat} {spare : Nat → Bool} {held : Bool}
theorem open_bytes_sq {fuel : Nat} {cs : List Value} {x : DataW H × List MemPlace} (h : DataW.trod enc Tryz.prog w base spare held fuel 22 cs = some x) :
    ∃ A c xs, cs = [.slice A xs.length c] ∧ Sq w w.heap.size A c (bvs xs) := by
  obtain ⟨A, c, xs, h1, h2, h3, h4⟩ := open_bytes h
  exact ⟨A, c, xs, h1, h2.sq (by rw [bvs_length]; exact h3) h4⟩
end
end Go.Proofs.YtgehfbcagaaggaaGreatDoor
end
section
namespace Go.Proofs.YtgehfbcagaaggaaGreatDoor
open Go.RowKit Go.ChangeShapes Go.WideShapes
set_option linter.unusedVariables false
set_option linter.unusedSimpArgs false
def laidLong : List (String × DataW Unit) := [("ratline/long.beginnings", Rows.laid_ratline_long_beginnings), ("ratline/long.constants", Rows.laid_ratline_long_constants)]
theorem gBegL : Tryz.prog.globalNamed "ratline/long.beginnings" = some 0 := by kernel_rfl
theorem gConL : Tryz.prog.globalNamed "ratline/long.constants" = some 1 := by kernel_rfl
theorem tBegL : (Tryz.prog.globals[0]?).map (·.type) = some 141 := by kernel_rfl
theorem tConL : (Tryz.prog.globals[1]?).map (·.type) = some 152 := by kernel_rfl
theorem datBegL : (Rows.laid_ratline_long_beginnings : DataW Unit) = Lib.tabData .u64 (ints ivL.list) := by kernel_rfl
theorem datConL : (Rows.laid_ratline_long_constants : DataW Unit) = Lib.tabData .u64 (ints kTabL) := by kernel_rfl
theorem ints_cellsL (xs : List Nat) : (ints xs).map (fun z => Value.int .u64 z) = uvs xs := by simp [ints, uvs]
theorem door_metL (os : Os) (args : Array Value) : laidMetH Tryz.prog laidLong ((World.doorLaid Tryz.prog 400 os).forCall (fun _ _ => 0) ⟨#[], args, []⟩).memory :=
  laidMetH_of_parts3 (fuel := 8) (laidMet_of_run' 8 (by kernel_rfl) (by kernel_rfl)) (by kernel_rfl) (by kernel_rfl)
/-- What the condition gives the walks. -/
theorem globL_of_laid {W : World} (h : laidMetH Tryz.prog laidLong W) : GlobL W := by
  rw [MakeChecks.laidMetH_plain _ _ _ (by kernel_rfl)] at h
  obtain ⟨ps, ⟨g0, t0, cs0, f0, p0, q0, hg0, ht0, hv0, hd0, ⟨g1, t1, cs1, f1, p1, q1, hg1, ht1, hv1, hd1, _, _⟩, _⟩, _, _⟩ := h
  obtain rfl := Option.some.inj (gBegL.symm.trans hg0)
  obtain rfl := Option.some.inj (gConL.symm.trans hg1)
  obtain rfl := Option.some.inj (tBegL.symm.trans ht0)
  obtain rfl := Option.some.inj (tConL.symm.trans ht1)
  rw [datBegL] at hd0
  rw [datConL] at hd1
  have h0 := Lib.cells_of_tab Tryz.underlying141 Tryz.underlying59 (by kernel_rfl) (by kernel_rfl) hd0
  have h1 := Lib.cells_of_tab Tryz.underlying152 Tryz.underlying59 (by kernel_rfl) (by kernel_rfl) hd1
  rw [ints_cellsL] at h0 h1
  have c0 : ∀ j v, (stL ivL)[j]? = some v → W.cell? ⟨0, j, none⟩ = some v := fun j v hv => by
    rw [World.var?_cell hg0 hv0 j, ← Array.getElem?_toList, h0]
    rw [stL, List.getElem?_toArray] at hv
    exact hv
  have c1 : ∀ j, j < 80 → W.cell? ⟨1, j, none⟩ = some (.int .u64 ((kTabL.getD j 0 : Nat) : Int)) := fun j hj => by
    rw [World.var?_cell hg1 hv1 j, ← Array.getElem?_toList, h1, uvs, List.getElem?_map, List.getD_eq_getElem?_getD, List.getElem?_eq_getElem (by rw [kTabL_length]; exact hj)]
    rfl
  exact ⟨c1, c0, World.block_lt_of_cell? W _ (c1 0 (by omega)), World.block_lt_of_cell? W _ (c0 0 _ rfl)⟩
end Go.Proofs.YtgehfbcagaaggaaGreatDoor
end
section
namespace Go.Proofs.YtgehfbcagaaggaaGreatDoor
open Go.RowKit Go.ChangeShapes Go.WideShapes
set_option linter.unusedVariables false
set_option linter.unusedSimpArgs false
section
variable {H : Type} {enc : TypeId × Value → H} {w : World} {base : Nat} {spare : Nat → Bool} {held : Bool}
/-- A struct of one-cell fields: each field's cell, and its own reading. -/
theorem open_fields {P : Program} {t : TypeId} {fs : Array Field} {fuel : Nat} {cs : List Value} {x : DataW H × List MemPlace} (hs : P.underlying t = some (.struct fs)) (hone : Go.Deep.oneCellFields P fs = true) (hC : P.cellsOf t = fs.size)
    (h : DataW.trod enc P w base spare held fuel t cs = some x) : ∃ n, ∀ (j : Nat) (f : Field), fs[j]? = some f → ∃ v y, cs[j]? = some v ∧ DataW.trod enc P w base spare held n f.type [v] = some y := by
  obtain ⟨ys, n, _, _, hlen, hyl, hg⟩ := DataW.trod_struct hs h
  refine ⟨n, fun j f hj => ?_⟩
  have hlt : j < fs.size := (Array.getElem?_eq_some_iff.1 hj).1
  have hcl : j < cs.length := by rw [hlen, hC]; exact hlt
  obtain ⟨ho, hk⟩ := Go.Deep.hone_of hone j f hj
  have h1 := hg j f hj
  have hd : (cs.drop j).take 1 = [cs[j]] := by rw [List.drop_eq_getElem_cons hcl]; rfl
  rw [ho, hk, hd] at h1
  exact ⟨cs[j], ys[j]'(by omega), List.getElem?_eq_getElem hcl, h1.trans (List.getElem?_eq_getElem (by omega))⟩
end
end Go.Proofs.YtgehfbcagaaggaaGreatDoor
end
section
namespace Go.Proofs.YtgehfbcagaaggaaGreatDoor
open Go Go.RowKit Go.ChangeShapes Go.WideShapes
set_option linter.unusedVariables false
set_option linter.unusedSimpArgs false
theorem okWide_rowS {P : Program} {w : World} {r : Reach} {base : Nat} {t : TypeId} {v : Value} {fs : Array Field} (ht : P.underlying t = some (.struct fs)) (h : Value.okWide P w r base t v) : ∃ cs, v = .agg cs := by
  unfold Value.okWide at h
  rw [ht] at h
  obtain ⟨cs, h1, -⟩ := h
  exact ⟨cs, h1⟩
section
variable {H : Type} {enc : TypeId × Value → H} {w : World} {base : Nat} {spare : Nat → Bool} {held : Bool}
theorem six16 {α : Type} {l : List α} {a b c d e f : α} (h : l.length = 6) (h0 : l[0]? = some a) (h1 : l[1]? = some b) (h2 : l[2]? = some c) (h3 : l[3]? = some d) (h4 : l[4]? = some e) (h5 : l[5]? = some f) : l = [a, b, c, d, e, f] := by
  rcases l with _ | ⟨x0, _ | ⟨x1, _ | ⟨x2, _ | ⟨x3, _ | ⟨x4, _ | ⟨x5, _ | ⟨x6, l⟩⟩⟩⟩⟩⟩⟩ <;> simp_all
theorem open_leafS {fuel : Nat} {cs : List Value} {x : DataW H × List MemPlace} (h : DataW.trod enc Tryz.prog w base spare held fuel 24 cs = some x) :
    ∃ y a, cs = (lfV y a).toList ∧ LfS w y a ∧ y.src < 256 := by
  have hl : cs.length = 6 := by
    obtain ⟨ys, n, _, _, hlen, _, _⟩ := DataW.trod_struct Tryz.underlying24 h
    rw [hlen]; kernel_rfl
  obtain ⟨n, hf⟩ := open_fields Tryz.underlying24 (by kernel_rfl) (by kernel_rfl) h
  obtain ⟨v0, y0, c0, t0⟩ := hf 0 _ rfl
  obtain ⟨v1, y1, c1, t1⟩ := hf 1 _ rfl
  obtain ⟨v2, y2, c2, t2⟩ := hf 2 _ rfl
  obtain ⟨v3, y3, c3, t3⟩ := hf 3 _ rfl
  obtain ⟨v4, y4, c4, t4⟩ := hf 4 _ rfl
  obtain ⟨v5, y5, c5, t5⟩ := hf 5 _ rfl
  obtain ⟨A0, q0, x0, e0, L0⟩ := open_bytes_q t0
  obtain ⟨A1, q1, x1, e1, L1⟩ := open_bytes_q t1
  obtain ⟨A2, q2, x2, e2, L2⟩ := open_bytes_q t2
  obtain ⟨k3, e3, _, hw⟩ := DataW.trod_int Tryz.underlying5 t3
  obtain ⟨A4, q4, x4, e4, L4⟩ := open_bytes_q t4
  obtain ⟨A5, q5, x5, e5, L5⟩ := open_bytes_q t5
  simp only [List.cons.injEq, and_true] at e0 e1 e2 e3 e4 e5
  subst e0 e1 e2 e3 e4 e5
  have hb := bounds_u8 hw
  refine ⟨⟨x0, x1, x2, k3.toNat, x4, x5⟩, ⟨A0, A1, A2, A4, A5, q0, q1, q2, q4, q5⟩, ?_, ⟨L0, L1, L2, L4, L5⟩, ?_⟩
  · rw [six16 hl c0 c1 c2 c3 c4 c5]
    show _ = [_, _, _, Value.int .u8 ((k3.toNat : Nat) : Int), _, _]
    rw [Int.toNat_of_nonneg hb.1]
  · show k3.toNat < 256
    omega
end
end Go.Proofs.YtgehfbcagaaggaaGreatDoor
end
