/-
  The statements of layer 3: what each begins with.
-/
import Derived.Test.YtokggppfobbblaaDoorLon8
import Derived.Test.YtokggppfobbblaaDoorLonA
import Derived.Test.YtokggppfobbblaaDoorLaw02a
namespace Go.Proofs.YtokggppfobbblaaDoor
open Go.RowKit
set_option linter.unusedVariables false
set_option linter.unusedSimpArgs false

theorem abcL_four : (longB abcB).take 4 = [221, 175, 53, 161] := by decide +kernel
theorem abcL_cell (k : Nat) (x : UInt8) (h : [221, 175, 53, 161][k]? = some x) : (byA (longB abcB))[k]? = some (.int .u8 (x.toNat : Int)) := by
  have hk : k < 4 := (List.getElem?_eq_some_iff.1 h).1
  rw [← abcL_four, List.getElem?_take, if_pos hk] at h
  rw [byA, List.getElem?_toArray, bvs, List.getElem?_map, h]
  rfl
theorem root_two : rbits (2 * 18446744073709551616 ^ 2) 2 0 75 % 18446744073709551616 = 7640891576956012808 := by decide +kernel

set_option maxRecDepth 100000 in
set_option maxHeartbeats 800000 in
theorem aliveL_any (w : World) (hG : GlobL w) :
    Calls Tryd.prog 15 #[] w fun e w' => e = .returned (.bool true) ∧ Below w.heap.size w w' := by
  have hb0 : Below w.heap.size w (w.alloc (.cells #[.int .u8 97, .int .u8 98, .int .u8 99] 5 (3, 4))) := (Below.refl _ _).alloc (Nat.le_refl _) _
  have hA : Sq (w.alloc (.cells #[.int .u8 97, .int .u8 98, .int .u8 99] 5 (3, 4))) (w.alloc (.cells #[.int .u8 97, .int .u8 98, .int .u8 99] 5 (3, 4))).heap.size (some ⟨w.heap.size, 0, none⟩) 3 (bvs abcB) :=
    Lie.sq (lie_marked w #[.int .u8 97, .int .u8 98, .int .u8 99] 3 4) (by decide) (by omega)
  have HC := hid (SumL_any (some ⟨w.heap.size, 0, none⟩) abcB 3 _ (by decide) hA (hG.below hb0 (Nat.le_refl _)))
  have kc := fun (W : World) (C : Array Value) (n c : Nat) => Go.Lib.run_convert_bytes_const (P := Tryd.prog) W 22 5 C n c Tryd.underlying22 Tryd.underlying5
  obtain ⟨z64, hz64⟩ : ∃ z : Array Value, z = (List.replicate 64 (Value.int .u8 0)).toArray := ⟨_, rfl⟩
  have hz64s : z64.size = 64 := by rw [hz64]; simp
  have hzero : ∀ W : World, (zeroValue 30).run Tryd.prog W = .ok (.agg z64) W := fun W => by
    rw [hz64]
    exact (zero_of_info (P := Tryd.prog) (t := 30) (v := .agg (List.replicate 64 (Value.int .u8 0)).toArray) (n := 64) (by kernel_rfl)).1 W
  have HZS := hid hz64s
  clear hA hG hb0 hz64 hz64s
  go_enter Tryd.func15, Tryd.ntmps15
  go_wp2_with fail
  refine HC.out.mono ?_
  rintro e w1 ⟨rfl, hb1⟩
  rw [World.size_alloc] at hb1
  have hb1' : Below w.heap.size w w1 := ((Below.refl w.heap.size w).alloc (Nat.le_refl _) _).trans (hb1.mono (by omega))
  obtain ⟨d, hd⟩ : ∃ d, d = byA (longB abcB) := ⟨_, rfl⟩
  have hdz : d.size = 64 := by rw [hd]; simp [byA, longB_length]
  have hd0 : d[0]? = some (.int .u8 221) := by rw [hd]; exact abcL_cell 0 221 rfl
  have hd1 : d[1]? = some (.int .u8 175) := by rw [hd]; exact abcL_cell 1 175 rfl
  have hd2 : d[2]? = some (.int .u8 53) := by rw [hd]; exact abcL_cell 2 53 rfl
  have hd3 : d[3]? = some (.int .u8 161) := by rw [hd]; exact abcL_cell 3 161 rfl
  have hdo : d.all (·.oneCell') = true := by rw [hd]; exact byA_one _
  rw [← hd]
  have hc0 : (w1.alloc (.cells d A64B)).cell? ⟨w1.heap.size, 0, none⟩ = some (.int .u8 221) := cell_of (heap_alloc_new _ _) 0 _ hd0
  have hc1 : (w1.alloc (.cells d A64B)).cell? ⟨w1.heap.size, 1, none⟩ = some (.int .u8 175) := cell_of (heap_alloc_new _ _) 1 _ hd1
  have hc2 : (w1.alloc (.cells d A64B)).cell? ⟨w1.heap.size, 2, none⟩ = some (.int .u8 53) := cell_of (heap_alloc_new _ _) 2 _ hd2
  have hc3 : (w1.alloc (.cells d A64B)).cell? ⟨w1.heap.size, 3, none⟩ = some (.int .u8 161) := cell_of (heap_alloc_new _ _) 3 _ hd3
  have HI : Hid ((Tryd.prog.info? 30).map (·.size) = some d.size) := hid (info64B.trans (congrArg some hdz.symm))
  have HO := hid hdo
  have HB := hid hb1'
  have hrt := Root_good2 2 (w1.alloc (.cells d A64B)) (by omega)
  rw [root_two, show ((2 : Nat) : Int) = 2 from rfl, show ((7640891576956012808 : Nat) : Int) = 7640891576956012808 from rfl] at hrt
  have HRT := hid hrt
  have HZ : Hid (z64.size = d.size) := hid (HZS.out.trans hdz.symm)
  clear hd hdz hd0 hd1 hd2 hd3 hdo hb1 hb1' hrt
  go_wp2_with (first
    | fail
    | (with_reducible refine wpList_store_row rfl 30 (.tmp 1) _ rfl w1.heap.size d rfl rfl A64B _ (heap_alloc_new _ _) HI.out HZ.out HO.out ?_; rw [World.setRow_alloc_new]))
  refine HRT.out.mono ?_
  rintro e w2 ⟨rfl, hb2⟩
  go_wp2
  go_ret
  exact ⟨rfl, (HB.out.alloc HB.out.size _).trans (hb2.mono (by have := HB.out.size; simp; omega))⟩
end Go.Proofs.YtokggppfobbblaaDoor
