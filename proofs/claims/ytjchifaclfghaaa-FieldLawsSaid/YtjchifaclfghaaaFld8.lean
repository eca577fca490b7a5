/-
  Package field: the bytes of a power; powers.
-/
import Derived.Test.YtjchifaclfghaaaFld7
import Derived.Test.YtjchifaclfghaaaGoto
import Derived.Test.YtjchifaclfghaaaBig3
namespace Go.Proofs.Ytjchifaclfghaaa
open Go.RowKit
set_option linter.unusedVariables false
set_option linter.unusedSimpArgs false

theorem bvs_cell {w : World} {g : Nat} {t : TypeId} {L : List UInt8} (h : w.heap[g]? = some (.cells (bvs L).toArray t (0, 0))) (k : Nat) (hk : k < L.length) : ∃ v, w.cell? ⟨g, k, none⟩ = some v :=
  ⟨_, cell_of h k _ (by rw [List.getElem?_toArray]; exact List.getElem?_eq_getElem (by simpa using hk))⟩
theorem bvs_set (L : List UInt8) (p : Nat) (y : UInt8) : (bvs L).toArray.setIfInBounds p (Value.int .u8 ((y.toNat : Nat) : Int)) = (bvs (L.set p y)).toArray := by
  simp [bvs, List.map_set]
theorem bvs_sq {w : World} {g c : Nat} {t : TypeId} {L : List UInt8} (h : w.heap[g]? = some (.cells (bvs L).toArray t (0, 0))) (hc : L.length ≤ c) (hc2 : c ≤ 9223372036854775807) : Sq w w.heap.size (some ⟨g, 0, none⟩) c (bvs L) :=
  .inr ⟨g, 0, rfl, block_lt h, by simpa using hc, hc2, fun j u hu => by rw [Nat.zero_add]; exact cell_of h j u (by rw [List.getElem?_toArray]; exact hu)⟩

/-- The bytes of such a power. -/
def expB (a b : UInt8) : List UInt8 := a :: (List.replicate 30 255 ++ [b])
theorem expB_length (a b : UInt8) : (expB a b).length = 32 := rfl
theorem exp_set (a b : UInt8) : ((List.replicate 32 (255 : UInt8)).set 0 a).set 31 b = expB a b := rfl

set_option maxHeartbeats 1000000 in
theorem exponent_e (a b : UInt8) (w : World) :
    Calls Try.prog 47 #[.int .u8 ((a.toNat : Nat) : Int), .int .u8 ((b.toNat : Nat) : Int)] w fun e w' => ∃ A, e = .returned (.slice A 32 32) ∧ Sq w' w'.heap.size A 32 (bvs (expB a b)) ∧ Below w.heap.size w w' := by
  obtain ⟨i0, hi, hz0, hz1, hz2⟩ := info_parts infoU8
  go_enter Try.func47, Try.ntmps47
  go_wp2_with (at_make; refine wpList_make_full _ rfl _ _ 22 rfl w.heap.size 5 i0 (.int .u8 0) 1 Try.underlying22 hi hz0 hz1 _ _ _ _ 32 rfl rfl ?c0 ?c1 ?c2 ?c3 ?c4 ?_)
  case c0 => omega
  case c1 => omega
  case c2 => rw [hz2]; omega
  case c3 => unfold maxLen; omega
  case c4 => exact Nat.le_refl _
  intro w1 hown hg
  obtain ⟨hrow, _⟩ := own_row hown
  have hb1 : Below w.heap.size w w1 := below_of_grown hg (Nat.le_refl _) (fun _ h => by cases h)
  have hcs : (madeCells #[Value.int .u8 0] 32).toList = bvs (List.replicate 0 255 ++ List.replicate 32 0) := by
    rw [toList_madeCells_one]; rfl
  rw [hcs] at hrow
  have HROW := hid hrow; have HB := hid hb1
  clear hown hg hrow hb1 hcs hi hz0 hz1 hz2
  go_wp2
  go_loopg [10] 32 (fun g i wr => ∃ k : Nat, k + g = 32 ∧ i = .int .i64 (k : Int) ∧ wr.heap[w.heap.size]? = some (.cells (bvs (List.replicate k 255 ++ List.replicate (32 - k) 0)).toArray 5 (0, 0)) ∧ Below w.heap.size w wr)
  case atStart => exact ⟨0, by omega, rfl, HROW.out, HB.out⟩
  case round =>
    clear HROW HB
    obtain ⟨k, hk, rfl, hrow, hb⟩ := hrel
    have HK := hid hk; have HB := hid hb; have HROW := hid hrow
    have hk4 : k ≤ 32 := by omega
    clear hk hb
    by_cases hlt : k < 32
    · have hx : (k : Int) < 32 := by omega
      have hk0 : (0 : Int) ≤ (k : Int) := by omega
      obtain ⟨v0, hcell⟩ := bvs_cell hrow k (by simp; omega)
      have hfz : wr.frozen? ⟨w.heap.size, k, none⟩ = false := frozen_of_row _ _ _ _ _ hrow
      have hset : (List.replicate k (255 : UInt8) ++ List.replicate (32 - k) 0).set k 255 = List.replicate (k + 1) 255 ++ List.replicate (32 - (k + 1)) 0 := by
        rw [List.set_append_right _ _ (by simp), show 32 - k = (32 - (k + 1)) + 1 by omega, List.replicate_succ (n := 32 - (k + 1)), List.length_replicate, Nat.sub_self, List.set_cons_zero, List.replicate_succ' (n := k), List.append_assoc]
        rfl
      have hrow2 := block_set hrow k (.int .u8 (((255 : UInt8).toNat : Nat) : Int))
      rw [bvs_set, hset] at hrow2
      have HR2 := hid hrow2
      clear hrow hset hrow2
      go_wp2
      have hk := HK.out
      go_roundg (32 - k - 1)
      case measure => omega
      case rel => exact ⟨k + 1, by omega, by go_num, HR2.out, HB.out.setCell (Nat.le_refl _) _⟩
    · obtain rfl : k = 32 := by omega
      have hrow0 : wr.heap[w.heap.size]? = some (.cells (bvs (List.replicate 32 255)).toArray 5 (0, 0)) := hrow
      obtain ⟨v0, hc0⟩ := bvs_cell hrow0 0 (by simp)
      have hf0 : wr.frozen? ⟨w.heap.size, 0, none⟩ = false := frozen_of_row _ _ _ _ _ hrow
      have hr1 := block_set hrow0 0 (.int .u8 ((a.toNat : Nat) : Int))
      rw [bvs_set] at hr1
      obtain ⟨v1, hc1⟩ := bvs_cell hr1 31 (by simp)
      have hf1 := frozen_of_row _ _ 31 _ _ hr1
      have hr2 := block_set hr1 31 (.int .u8 ((b.toNat : Nat) : Int))
      rw [bvs_set, exp_set] at hr2
      have HR2 := hid hr2
      have HB2 := hid ((HB.out.setCell (p := ⟨w.heap.size, 0, none⟩) (Nat.le_refl _) (.int .u8 ((a.toNat : Nat) : Int))).setCell (p := ⟨w.heap.size, 31, none⟩) (Nat.le_refl _) (.int .u8 ((b.toNat : Nat) : Int)))
      clear hrow hrow0 hr1 hr2 HROW
      go_wp2
      go_ret
      exact ⟨_, rfl, bvs_sq HR2.out (by simp [expB_length]) (by omega), HB2.out⟩
end Go.Proofs.Ytjchifaclfghaaa
