/-
  Texts of this claim in one file: KdfP, Kdf2.
-/
import Derived.Test.YtgehfbcagaaggaaGreatDoorPk12
import Derived.Test.YtgehfbcagaaggaaGreatDoorPk6
import Derived.Test.YtgehfbcagaaggaaGreatDoorPk32
import Derived.Laws.CopyRow
import Derived.Test.YtgehfbcagaaggaaGreatDoorPk48
import Derived.Test.YtgehfbcagaaggaaGreatDoorPk30
import Derived.Test.YtgehfbcagaaggaaGreatDoorPk42
import Derived.Laws.IdiomStrings
section
namespace Go.Proofs.YtgehfbcagaaggaaGreatDoor
set_option linter.unusedVariables false
set_option linter.unusedSimpArgs false
def mlsB : List UInt8 := [77, 76, 83, 32, 49, 46, 48, 32]
theorem vecBytes_length (v : List UInt8) : (vecBytes v).length = lenSize v.length + v.length := by rw [vecBytes, List.length_append, lenBytes_length]
theorem vecBytes_le (v : List UInt8) : (vecBytes v).length ≤ v.length + 4 := by have := lenSize_le v.length; rw [vecBytes_length]; omega
end Go.Proofs.YtgehfbcagaaggaaGreatDoor
end
section
namespace Go.Proofs.YtgehfbcagaaggaaGreatDoor
open Go.RowKit
set_option linter.unusedVariables false
set_option linter.unusedSimpArgs false
/-- The bytes of a string. -/
def sby (s : ByteArray) : List UInt8 := s.data.toList
theorem sby_length (s : ByteArray) : (sby s).length = s.size := by unfold sby; rw [Array.length_toList]; rfl
/-- The world behind '[]byte(s)'. -/
def strW (W : World) (s : ByteArray) : World := W.drew.alloc (.cells (bytesRow s (grownCap W s.size 0 U8)) U8 ((bytesRow s (grownCap W s.size 0 U8)).size, (bytesRow s (grownCap W s.size 0 U8)).size + 1))
theorem strW_size (W : World) (s : ByteArray) : (strW W s).heap.size = W.heap.size + 1 := by simp [strW]
theorem strW_below (W : World) (s : ByteArray) : Below W.heap.size W (strW W s) := (Below.refl _ _).drew.alloc (by simp) _
theorem strW_lie (W : World) (s : ByteArray) : Lie (strW W s) (strW W s).heap.size (some ⟨W.heap.size, 0, none⟩) (bvs (sby s)) := fun _ =>
  ⟨W.heap.size, 0, rfl, by rw [strW_size]; omega, fun j u hu => by
    unfold strW
    rw [Nat.zero_add, cell_of_row _ W.heap.size j _ _ _ (heap_alloc_new W.drew _)]
    have hj : j < s.data.size := by
      have := (List.getElem?_eq_some_iff.1 hu).1
      simpa [sby] using this
    rw [bytesRow, Array.getElem?_append_left (by simpa using hj)]
    simp only [bvs, sby, List.getElem?_map, Array.getElem?_toList] at hu
    simpa using hu⟩
theorem run_bytes (W : World) (s : ByteArray) : (convert 9 22 (.string s)).run Tryz.prog W = .ok (.slice (some ⟨W.heap.size, 0, none⟩) s.size (grownCap W s.size 0 U8)) (strW W s) :=
  run_bytes_of_string W 9 22 5 s Tryz.underlying9 Tryz.underlying22 Tryz.underlying5
/-- The text ahead of a label. -/
def mlsS (s : ByteArray) : ByteArray := ⟨#[77, 76, 83, 32, 49, 46, 48, 32]⟩ ++ s
theorem mlsS_size (s : ByteArray) : (mlsS s).size = s.size + 8 := by rw [mlsS, ByteArray.size_append, Nat.add_comm]; rfl
theorem mlsS_sby (s : ByteArray) : sby (mlsS s) = mlsB ++ sby s := by
  simp [sby, mlsS, mlsB, ByteArray.data_append]
theorem run_mls (W : World) (s : ByteArray) (h : s.size ≤ 1048576) : (Op.stringOp .add ⟨#[77, 76, 83, 32, 49, 46, 48, 32]⟩ s).run Tryz.prog W = .ok (.string (mlsS s)) W :=
  run_string_add_sum W _ _ (by have : (ByteArray.mk #[77, 76, 83, 32, 49, 46, 48, 32]).size = 8 := rfl; omega)
/-- PutVec with the lengths as they are spelled. -/
theorem PutVec_n (A : Option Addr) (xs : List UInt8) (n c : Nat) (A' : Option Addr) (ys : List UInt8) (m c' : Nat) (w : World) (hx : xs.length = n) (hy : ys.length = m) (hm : m < 1073741824) (hA : Lie w w.heap.size A (bvs xs)) (hA' : Lie w w.heap.size A' (bvs ys)) (hb : n + 1073741840 ≤ 140737488355328) :
    Calls Tryz.prog 34 #[.slice A n c, .slice A' m c'] w fun e w' => ∃ v, e = .returned v ∧ OwnB w' w.heap.size v (xs ++ vecBytes ys) ∧ Below w.heap.size w w' := by
  subst hx; subst hy
  exact PutVec_ok A xs c A' ys c' w hm hA hA' hb
end Go.Proofs.YtgehfbcagaaggaaGreatDoor
end
