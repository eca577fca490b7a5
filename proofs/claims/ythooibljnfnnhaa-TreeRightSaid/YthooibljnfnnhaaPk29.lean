/-
  Texts of this claim in one file: EqB.
-/
import Derived.Test.YthooibljnfnnhaaPk26
import Derived.Shelf.Bytes.SlEqualAll
section
namespace Go.Proofs.Ythooibljnfnnhaa
open Go Go.RowKit
set_option linter.unusedVariables false
set_option linter.unusedSimpArgs false
/-- Bytes as numbers. -/
def nums (xs : List UInt8) : List Int := xs.map fun x => (x.toNat : Int)
theorem nums_back (zs : List UInt8) : (strOfNums (nums zs)).toList = zs := by
  rw [Lib.strOfNums_toList, Lib.bytesOf, nums, List.map_map]
  conv => rhs; rw [← List.map_id zs]
  refine List.map_congr_left fun z _ => ?_
  apply UInt8.toNat_inj.1
  simp [UInt8.toNat_ofNat']
theorem Sq.nums {w : World} {B : Nat} {A : Option Addr} {c : Nat} {xs : List UInt8} (h : Sq w B A c (bvs xs)) : Lib.BytesIn w A xs.length (nums xs) := fun hn => by
  obtain ⟨b, o, hA, -⟩ := h.lie.byte hn
  refine ⟨b, o, hA, fun i hi => ?_⟩
  obtain ⟨b', o', hA', -, hc⟩ := h.lie.byte hi
  rw [hA] at hA'
  simp only [Option.some.injEq, Addr.mk.injEq] at hA'
  obtain ⟨rfl, rfl, -⟩ := hA'
  rw [hc, Go.Proofs.Ythooibljnfnnhaa.nums, List.getD_eq_getElem?_getD, List.getElem?_map, List.getElem?_eq_getElem hi]
  rfl
end Go.Proofs.Ythooibljnfnnhaa
end
