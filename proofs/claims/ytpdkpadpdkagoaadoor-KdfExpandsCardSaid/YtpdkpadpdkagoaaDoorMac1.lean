/-
  Package mac: a byte or 0; the two blocks that a key makes.
-/
import Derived.Test.YtpdkpadpdkagoaaDoorShaT
import Derived.Test.YtpdkpadpdkagoaaDoorMacP
import Derived.Test.YtpdkpadpdkagoaaDoorQuiT
import Derived.Laws.CopyRow
namespace Go.Proofs.YtpdkpadpdkagoaaDoor
open Go.RowKit
set_option linter.unusedVariables false
set_option linter.unusedSimpArgs false

set_option maxHeartbeats 400000 in
theorem at_any (A : Option Addr) (xs : List UInt8) (c i : Nat) (w : World) (B : Nat) (hA : Lie w B A (bvs xs)) :
    Calls Tryd.prog 38 #[.slice A xs.length c, .int .i64 (i : Int)] w fun e w' => e = .returned (.int .u8 (((xs.getD i 0).toNat : Nat) : Int)) ∧ w = w' := by
  have hi0 : (0 : Int) ≤ (i : Int) := by omega
  by_cases hlt : i < xs.length
  · obtain ⟨b, o, rfl, hb, hc⟩ := hA.byte hlt
    have hx : (i : Int) < (xs.length : Int) := by omega
    obtain ⟨y, hy⟩ : ∃ y, y = xs.getD i 0 := ⟨_, rfl⟩
    have hy2 : xs[i] = y := by rw [hy, List.getD_eq_getElem?_getD, List.getElem?_eq_getElem hlt]; rfl
    rw [hy2] at hc
    rw [← hy]
    clear hy hy2
    go_enter Tryd.func38, Tryd.ntmps38
    go_wp2
    go_ret
    exact ⟨rfl, rfl⟩
  · have hx : ¬ (i : Int) < (xs.length : Int) := by omega
    obtain ⟨y, hy⟩ : ∃ y, y = xs.getD i 0 := ⟨_, rfl⟩
    have hy2 : y = 0 := by rw [hy, List.getD_eq_getElem?_getD, List.getElem?_eq_none (by omega)]; rfl
    rw [← hy]
    have HE : Hid (((y.toNat : Nat) : Int) = 0) := hid (by rw [hy2]; rfl)
    clear hy hy2
    go_enter Tryd.func38, Tryd.ntmps38
    go_wp2
    go_ret
    exact ⟨ret_int HE.out.symm, rfl⟩

/-- The first n bytes of a block, the rest 0. -/
def padTo (x : UInt8) (k : List UInt8) (n : Nat) : List UInt8 := (padX x k).take n ++ List.replicate (64 - n) 0
theorem padTo_length (x : UInt8) (k : List UInt8) (n : Nat) (h : n ≤ 64) : (padTo x k n).length = 64 := by simp [padTo]; omega
theorem padTo_end (x : UInt8) (k : List UInt8) : padTo x k 64 = padX x k := by
  simp only [padTo, Nat.sub_self, List.replicate_zero, List.append_nil]
  exact List.take_of_length_le (by simp)
theorem padTo_next (x : UInt8) (k : List UInt8) (n : Nat) (h : n < 64) : (byA (padTo x k n)).setIfInBounds n (.int .u8 (((k.getD n 0 ^^^ x).toNat : Nat) : Int)) = byA (padTo x k (n + 1)) := by
  apply Array.ext'
  have e : (padX x k).take (n + 1) = (padX x k).take n ++ [k.getD n 0 ^^^ x] := by
    rw [List.take_succ_eq_append_getElem (by simpa using h)]
    congr 2
    simp [padX]
  have e2 : List.replicate (64 - n) (0 : UInt8) = 0 :: List.replicate (64 - (n + 1)) 0 := by
    rw [show 64 - n = (64 - (n + 1)) + 1 by omega, List.replicate_succ]
  have hl : (bvs ((padX x k).take n)).length = n := by simp; omega
  simp only [byA, Array.toList_setIfInBounds, padTo, e, e2, bvs_append]
  rw [List.set_append_right _ _ (by omega), hl, Nat.sub_self]
  simp [bvs]
theorem padTo_cell {w : World} {g : Nat} {x : UInt8} {k : List UInt8} {n : Nat} (h : w.heap[g]? = some (.cells (byA (padTo x k n)) 46 (0, 0))) (hn : n < 64) : w.cell? ⟨g, n, none⟩ = some (.int .u8 0) := by
  refine cell_of h n _ ?_
  have hl : ((padX x k).take n).length = n := by simp; omega
  rw [byA, List.getElem?_toArray, padTo, bvs, List.map_append, List.getElem?_append_right (by simp; omega)]
  rw [List.length_map, hl, Nat.sub_self, show 64 - n = (64 - (n + 1)) + 1 by omega, List.replicate_succ]
  rfl
theorem info64 : (Tryd.prog.info? 46).map (·.size) = some 64 := by kernel_rfl
theorem zero64 (w : World) : (zeroValue 46).run Tryd.prog w = .ok (.agg (byA (List.replicate 64 0))) w :=
  (zero_of_info (P := Tryd.prog) (t := 46) (v := .agg (byA (List.replicate 64 0))) (n := 64) (by kernel_rfl)).1 w
theorem xor_u8 (a b : UInt8) : bits .xor .u8 ((a.toNat : Nat) : Int) ((b.toNat : Nat) : Int) = (((a ^^^ b).toNat : Nat) : Int) := by
  have ha := a.toNat_lt
  have hb := b.toNat_lt
  rw [UInt8.toNat_xor]
  exact u8_xor_nat _ _ ha hb

/-- Two new blocks hold what the key makes. -/
def Pads (w : World) (k : List UInt8) (n : Nat) (wr : World) : Prop :=
  wr.heap[w.heap.size]? = some (.cells (byA (padTo 92 k n)) 46 (0, 0)) ∧ wr.heap[w.heap.size + 1]? = some (.cells (byA (padTo 54 k n)) 46 (0, 0)) ∧ Below w.heap.size w wr
end Go.Proofs.YtpdkpadpdkagoaaDoor
