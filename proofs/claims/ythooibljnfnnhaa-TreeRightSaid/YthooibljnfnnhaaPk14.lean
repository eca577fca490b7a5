/-
  Texts of this claim in one file: TlS.
-/
import Derived.Test.YthooibljnfnnhaaPk12
import Derived.Test.YthooibljnfnnhaaPk5
import Derived.Test.YthooibljnfnnhaaPk13
import Derived.Shelf.Slices.SearchI
import Derived.Shelf.Slices.Empties
import Derived.Shelf.Spec.SlicesInsert
import Derived.Shelf.Spec.SlicesInsertGrow
section
namespace Go.Proofs.Ythooibljnfnnhaa
open Go Go.RowKit
set_option linter.unusedVariables false
set_option linter.unusedSimpArgs false
def bsRen : Go.Shelf.Ren := ⟨fun | 25 => 73 | 31 => 94 | 32 => 95 | 37 => 111 | n => n, fun | 22 => 30 | 3 => 3 | 4 => 4 | 40 => 98 | 0 => 0 | n => n, fun | n => n⟩
theorem bsLays : Go.Proofs.Lays2.n25 Try.prog bsRen := {
  mixed := by kernel_rfl
  f25 := Try.func73.trans (congrArg some (by kernel_rfl))
  f31 := Try.func94.trans (congrArg some (by kernel_rfl))
  f32 := Try.func95.trans (congrArg some (by kernel_rfl))
  f37 := Try.func111.trans (congrArg some (by kernel_rfl))
  t0 := Try.underlying0
  a0 := Try.isAgg0
  z0 := Try.sizeOf0
  v0 := Try.zeroValue0
  t3 := Try.underlying3
  a3 := Try.isAgg3
  z3 := Try.sizeOf3
  v3 := Try.zeroValue3
  t4 := Try.underlying4
  a4 := Try.isAgg4
  z4 := Try.sizeOf4
  v4 := Try.zeroValue4
  t22 := Try.underlying30
  a22 := Try.isAgg30
  z22 := Try.sizeOf30
  v22 := Try.zeroValue30
  t40 := Try.underlying98
  a40 := Try.isAgg98
  z40 := Try.sizeOf98
  v40 := Try.zeroValue98 }
def inRen : Go.Shelf.Ren := ⟨fun | 21 => 75 | 27 => 97 | 28 => 98 | 35 => 113 | 39 => 116 | n => n, fun | 22 => 30 | 3 => 3 | 4 => 4 | 0 => 0 | n => n, fun | n => n⟩
theorem inLays : Go.Proofs.Lays2.n21 Try.prog inRen := {
  mixed := by kernel_rfl
  f21 := Try.func75.trans (congrArg some (by kernel_rfl))
  f27 := Try.func97.trans (congrArg some (by kernel_rfl))
  f28 := Try.func98.trans (congrArg some (by kernel_rfl))
  f35 := Try.func113.trans (congrArg some (by kernel_rfl))
  f39 := Try.func116.trans (congrArg some (by kernel_rfl))
  t0 := Try.underlying0
  a0 := Try.isAgg0
  z0 := Try.sizeOf0
  v0 := Try.zeroValue0
  t3 := Try.underlying3
  a3 := Try.isAgg3
  z3 := Try.sizeOf3
  v3 := Try.zeroValue3
  t4 := Try.underlying4
  a4 := Try.isAgg4
  z4 := Try.sizeOf4
  v4 := Try.zeroValue4
  t22 := Try.underlying30
  a22 := Try.isAgg30
  z22 := Try.sizeOf30
  v22 := Try.zeroValue30
  i3 := by kernel_rfl }
theorem below_dn (B : Nat) (w : World) (q : Nat) : Below B w (w.drewN q) := ⟨rfl, rfl, rfl, Nat.le_refl _, fun _ _ => rfl⟩
theorem izs_getD (xs : List Int) (j : Nat) (h : j < xs.length) : xs.getD j 0 = xs[j] := by rw [List.getD_eq_getElem?_getD, List.getElem?_eq_getElem h]; rfl
/-- Of rising numbers: where one stands, or would; whether it is there. -/
theorem BS_e (A : Option Addr) (xs : List Int) (c : Nat) (x : Int) (w : World) (B : Nat) (hA : Lie w B A (izs xs)) (hs : xs.Pairwise (· < ·)) (hl : xs.length ≤ 1000000) :
    Calls Try.prog 73 #[.slice A xs.length c, .int .i64 x] w fun e w' => e = .returned (.tuple #[.int .i64 (cutL xs x : Int), .bool (decide (x ∈ xs))]) ∧ Below w.heap.size w w' := by
  cases xs with
  | nil => exact (Any.slices_BinarySearch_int_empty bsLays A c x w).mono fun e w' ⟨h1, h2⟩ => ⟨h1, by rw [h2]; exact Below.refl _ _⟩
  | cons y ys =>
    obtain ⟨b, o, rfl, -⟩ := hA.numZ (k := 0) (by simp)
    have hc : ∀ j, j < (y :: ys).length → w.cell? ⟨b, o + j, none⟩ = some (.int .i64 ((y :: ys).getD j 0)) := fun j hj => by
      obtain ⟨b', o', he, -, h⟩ := hA.numZ hj
      simp only [Option.some.injEq, Addr.mk.injEq] at he
      obtain ⟨rfl, rfl, -⟩ := he
      rw [h, izs_getD _ _ hj]
    have h := Any.slices_BinarySearch_int bsLays b o (y :: ys).length c (y :: ys) x w (Nat.le_refl _) (by omega) hc (by rw [List.take_length]; exact hs.imp fun h => Int.le_of_lt h)
    rw [List.take_length] at h
    refine h.mono fun e w' ⟨h1, q, h2⟩ => ⟨?_, by rw [h2]; exact below_dn _ _ _⟩
    rw [h1]
    congr 3
    congr 1
    rw [List.contains_eq_mem]
end Go.Proofs.Ythooibljnfnnhaa
end
