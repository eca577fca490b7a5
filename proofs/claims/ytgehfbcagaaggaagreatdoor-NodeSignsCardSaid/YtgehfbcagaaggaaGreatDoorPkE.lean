/-
  Texts of this claim in one file: EqB.
-/
import Derived.Test.YtgehfbcagaaggaaGreatDoorPk31
import Derived.Shelf.Bytes.SlEqualAll
section
namespace Go.Proofs.YtgehfbcagaaggaaGreatDoor
open Go Go.RowKit
set_option linter.unusedVariables false
set_option linter.unusedSimpArgs false
/-- Bytes as numbers. -/
def nums (xs : List UInt8) : List Int := xs.map fun x => (x.toNat : Int)
theorem nums_back (zs : List UInt8) : (strOfNums (nums zs)).toList = zs := by
  rw [Lib.strOfNums_toList, Lib.bytesOf, nums, List.map_map]
  conv => rhs; rw [← List.map_id zs]
  refine List.map_congr_left fun z _ => ?_
  apply UInt8.toNat_inj.1
  simp [UInt8.toNat_ofNat']
theorem Sq.nums {w : World} {B : Nat} {A : Option Addr} {c : Nat} {xs : List UInt8} (h : Sq w B A c (bvs xs)) : Lib.BytesIn w A xs.length (nums xs) := fun hn => by
  obtain ⟨b, o, hA, -⟩ := h.lie.byte hn
  refine ⟨b, o, hA, fun i hi => ?_⟩
  obtain ⟨b', o', hA', -, hc⟩ := h.lie.byte hi
  rw [hA] at hA'
  simp only [Option.some.injEq, Addr.mk.injEq] at hA'
  obtain ⟨rfl, rfl, -⟩ := hA'
  rw [hc, Go.Proofs.YtgehfbcagaaggaaGreatDoor.nums, List.getD_eq_getElem?_getD, List.getElem?_map, List.getElem?_eq_getElem hi]
  rfl
theorem Equal_s {A A' : Option Addr} {c c' B B' : Nat} {xs ys : List UInt8} {w : World} (h : Sq w B A c (bvs xs)) (h' : Sq w B' A' c' (bvs ys)) :
    Calls Tryz.prog 86 #[.slice A xs.length c, .slice A' ys.length c'] w fun e w' => e = .returned (.bool (decide (xs = ys))) ∧ w' = w := by
  have h1 := h.nums.convert (by unfold nums; rw [List.length_map]) c 22 5 9 Tryz.underlying22 Tryz.underlying5 Tryz.underlying9
  have h2 := h'.nums.convert (by unfold nums; rw [List.length_map]) c' 22 5 9 Tryz.underlying22 Tryz.underlying5 Tryz.underlying9
  have hi : ((strOfNums (nums xs)).toList == (strOfNums (nums ys)).toList) = decide (xs = ys) := by
    rw [nums_back, nums_back]
    by_cases he : xs = ys
    · rw [decide_eq_true he, beq_iff_eq]; exact he
    · rw [decide_eq_false he, beq_eq_false_iff_ne]; exact he
  have HI := hid hi
  clear h h' hi
  go_enter Tryz.func86, Tryz.ntmps86
  go_wp2
  go_ret
  exact ⟨by rw [← HI.out]; rfl, rfl⟩
end Go.Proofs.YtgehfbcagaaggaaGreatDoor
end
