/-
  The statements of layer 2: what each begins with.
-/
import Derived.Test.YtokggppfobbblaaDoorSha9
import Derived.Test.YtokggppfobbblaaDoorSame
import Derived.Lib.SlBytesConst
namespace Go.Proofs.YtokggppfobbblaaDoor
open Go.RowKit
set_option linter.unusedVariables false
set_option linter.unusedSimpArgs false

def abcB : List UInt8 := [97, 98, 99]
theorem abc_four : (shaB abcB).take 4 = [186, 120, 22, 191] := by decide +kernel
theorem abc_cell (k : Nat) (x : UInt8) (h : [186, 120, 22, 191][k]? = some x) : (byA (shaB abcB))[k]? = some (.int .u8 (x.toNat : Int)) := by
  have hk : k < 4 := (List.getElem?_eq_some_iff.1 h).1
  rw [← abc_four, List.getElem?_take, if_pos hk] at h
  rw [byA, List.getElem?_toArray, bvs, List.getElem?_map, h]
  rfl

theorem lie_marked (w : World) (C : Array Value) (i j : Nat) : Lie (w.alloc (.cells C 5 (i, j))) (w.alloc (.cells C 5 (i, j))).heap.size (some ⟨w.heap.size, 0, none⟩) C.toList := fun _ =>
  ⟨w.heap.size, 0, rfl, by simp, fun k u hu => by
    rw [Nat.zero_add, cell_of_row _ w.heap.size k C _ (i, j) (heap_alloc_new w _)]
    simpa using hu⟩
theorem Rows2'.none (w : World) (B : Nat) : Rows2' w B none [] := ⟨[], rfl, Lie.nil, fun j x h => by simp at h⟩

set_option maxRecDepth 100000 in
set_option maxHeartbeats 800000 in
theorem alive_any (w : World) (hG : Glob w) :
    Calls Tryd.prog 9 #[] w fun e w' => e = .returned (.bool true) ∧ Below w.heap.size w w' := by
  have hb0 : Below w.heap.size w (w.alloc (.cells #[.int .u8 97, .int .u8 98, .int .u8 99] 5 (3, 4))) := (Below.refl _ _).alloc (Nat.le_refl _) _
  have hA : Sq (w.alloc (.cells #[.int .u8 97, .int .u8 98, .int .u8 99] 5 (3, 4))) (w.alloc (.cells #[.int .u8 97, .int .u8 98, .int .u8 99] 5 (3, 4))).heap.size (some ⟨w.heap.size, 0, none⟩) 3 (bvs abcB) :=
    Lie.sq (lie_marked w #[.int .u8 97, .int .u8 98, .int .u8 99] 3 4) (by decide) (by omega)
  have HC := hid (Sum_any (some ⟨w.heap.size, 0, none⟩) abcB 3 _ (by decide) hA (hG.below hb0 (Nat.le_refl _)))
  have HG := hid hG
  have kc := fun (W : World) (C : Array Value) (n c : Nat) => Go.Lib.run_convert_bytes_const (P := Tryd.prog) W 22 5 C n c Tryd.underlying22 Tryd.underlying5
  clear hA hG hb0
  go_enter Tryd.func9, Tryd.ntmps9
  go_wp2_with fail
  refine HC.out.mono ?_
  rintro e w1 ⟨rfl, hb1⟩
  rw [World.size_alloc] at hb1
  have hb1' : Below w.heap.size w w1 := ((Below.refl w.heap.size w).alloc (Nat.le_refl _) _).trans (hb1.mono (by omega))
  obtain ⟨d, hd⟩ : ∃ d, d = byA (shaB abcB) := ⟨_, rfl⟩
  have hdz : d.size = 32 := by rw [hd]; simp [byA, shaB_length]
  have hd0 : d[0]? = some (.int .u8 186) := by rw [hd]; exact abc_cell 0 186 rfl
  have hd1 : d[1]? = some (.int .u8 120) := by rw [hd]; exact abc_cell 1 120 rfl
  have hd2 : d[2]? = some (.int .u8 22) := by rw [hd]; exact abc_cell 2 22 rfl
  have hd3 : d[3]? = some (.int .u8 191) := by rw [hd]; exact abc_cell 3 191 rfl
  have hdo : d.all (·.oneCell') = true := by rw [hd]; exact byA_one _
  rw [← hd]
  have hc0 : (w1.alloc (.cells d A32)).cell? ⟨w1.heap.size, 0, none⟩ = some (.int .u8 186) := cell_of (heap_alloc_new _ _) 0 _ hd0
  have hc1 : (w1.alloc (.cells d A32)).cell? ⟨w1.heap.size, 1, none⟩ = some (.int .u8 120) := cell_of (heap_alloc_new _ _) 1 _ hd1
  have hc2 : (w1.alloc (.cells d A32)).cell? ⟨w1.heap.size, 2, none⟩ = some (.int .u8 22) := cell_of (heap_alloc_new _ _) 2 _ hd2
  have hc3 : (w1.alloc (.cells d A32)).cell? ⟨w1.heap.size, 3, none⟩ = some (.int .u8 191) := cell_of (heap_alloc_new _ _) 3 _ hd3
  have HI : Hid ((Tryd.prog.info? 24).map (·.size) = some d.size) := hid (info24.trans (congrArg some hdz.symm))
  have HO := hid hdo
  have HB := hid hb1'
  have HCO := hid (Of_any none [] 0 (w1.alloc (.cells d A32)) (Rows2'.none _ _) (HG.out.below (hb1'.alloc hb1'.size _) (Nat.le_refl _)) (by simp) (by simp))
  have HZ : Hid ((#[Value.int .u8 0, .int .u8 0, .int .u8 0, .int .u8 0, .int .u8 0, .int .u8 0, .int .u8 0, .int .u8 0, .int .u8 0, .int .u8 0, .int .u8 0, .int .u8 0, .int .u8 0, .int .u8 0, .int .u8 0, .int .u8 0, .int .u8 0, .int .u8 0, .int .u8 0, .int .u8 0, .int .u8 0, .int .u8 0, .int .u8 0, .int .u8 0, .int .u8 0, .int .u8 0, .int .u8 0, .int .u8 0, .int .u8 0, .int .u8 0, .int .u8 0, .int .u8 0] : Array Value).size = d.size) := hid hdz.symm
  clear hd hdz hd0 hd1 hd2 hd3 hdo hb1 hb1'
  go_wp2_with (first
    | fail
    | (with_reducible refine wpList_store_row rfl 24 (.tmp 1) _ rfl w1.heap.size d rfl rfl A32 _ (heap_alloc_new _ _) HI.out HZ.out HO.out ?_; rw [World.setRow_alloc_new]))
  refine HCO.out.mono ?_
  rintro e w2 ⟨v, rfl, ⟨b, rfl, hbk, hbz, hl⟩, hb2⟩
  go_wp2
  go_ret
  exact ⟨rfl, (HB.out.alloc HB.out.size _).trans (hb2.mono (by have := HB.out.size; simp; omega))⟩
end Go.Proofs.YtokggppfobbblaaDoor
