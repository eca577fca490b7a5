/-
  Package sha: the words of a state as bytes; the state of a Hash behind its whole blocks.
-/
import Derived.Test.YtpdkpadpdkagoaaDoorSha4
import Derived.Test.YtpdkpadpdkagoaaDoorShaP
namespace Go.Proofs.YtpdkpadpdkagoaaDoor
open Go.RowKit
set_option linter.unusedVariables false
set_option linter.unusedSimpArgs false

abbrev A32 : TypeId := 70
theorem info24 : (Tryd.prog.info? 70).map (·.size) = some 32 := by kernel_rfl
/-- Bytes as an array. -/
def byA (xs : List UInt8) : Array Value := (bvs xs).toArray
theorem byA_one (xs : List UInt8) : (byA xs).all (·.oneCell') = true := by
  rw [Array.all_eq_true']
  intro v hv
  exact bvs_one xs v (by simpa [byA] using hv)
/-- The array when k words are laid. -/
def dA (s : St) (k : Nat) : Array Value := (bvs (s.bytesTo k) ++ List.replicate (32 - 4 * k) (Value.int .u8 0)).toArray
theorem dA_zero (s : St) : dA s 0 = (List.replicate 32 (Value.int .u8 0)).toArray := by simp [dA, St.bytesTo, bvs]
theorem dA_end (s : St) : dA s 8 = byA s.bytes := by simp [dA, byA, St.bytesTo_end]
theorem dA_size (s : St) (k : Nat) (h : k ≤ 8) : (dA s k).size = 32 := by
  simp [dA, St.bytesTo_length s k h]; omega
theorem set4 (P R : List Value) (a b c d z : Value) (n : Nat) (h : P.length = n) : ((((P ++ z :: z :: z :: z :: R).set n a).set (n + 1) b).set (n + 2) c).set (n + 3) d = P ++ a :: b :: c :: d :: R := by
  subst h
  simp [List.set_append_right]
theorem dA_next (s : St) (k x : Nat) (hk : k < 8) (hx : s.list[k]? = some x) :
    ((((dA s k).setIfInBounds (4 * k) (.int .u8 (((UInt8.ofNat (x / 16777216)).toNat : Nat) : Int))).setIfInBounds (4 * k + 1) (.int .u8 (((UInt8.ofNat (x / 65536)).toNat : Nat) : Int))).setIfInBounds (4 * k + 2) (.int .u8 (((UInt8.ofNat (x / 256)).toNat : Nat) : Int))).setIfInBounds (4 * k + 3) (.int .u8 (((UInt8.ofNat x).toNat : Nat) : Int)) = dA s (k + 1) := by
  have h1 : 32 - 4 * k = (32 - 4 * (k + 1)) + 1 + 1 + 1 + 1 := by omega
  rw [dA, dA, St.bytesTo_succ s k x hx, h1, List.replicate_succ, List.replicate_succ, List.replicate_succ, List.replicate_succ]
  simp only [List.setIfInBounds_toArray]
  rw [set4 _ _ _ _ _ _ _ _ (by simp [St.bytesTo_length s k (by omega)])]
  simp [bvs_append, bvs, word32]
theorem dA_get (s : St) (k j : Nat) (hk : k < 8) (hj : j < 4) : (dA s k)[4 * k + j]? = some (Value.int .u8 0) := by
  rw [dA, List.getElem?_toArray, List.getElem?_append_right (by simp [St.bytesTo_length s k (by omega)]), List.getElem?_replicate, if_pos (by simp [St.bytesTo_length s k (by omega)]; omega)]

set_option maxRecDepth 100000 in
set_option maxHeartbeats 800000 in
theorem spread_any (s : St) (w : World) (hs : s.ok) :
    Calls Tryd.prog 52 #[.agg (stA s)] w fun e w' => e = .returned (.agg (byA s.bytes)) ∧ Below w.heap.size w w' := by
  have HS := hid hs
  clear hs
  have hl8 : s.list.length = 8 := rfl
  have HL8 := hid hl8
  have HI : Hid ((Tryd.prog.info? 60).map (·.size) = some (stA s).size) := hid (info40.trans (congrArg some (stA_size _).symm))
  have HI32 : Hid ((Tryd.prog.info? 70).map (·.size) = some (dA s 8).size) := hid (info24.trans (congrArg some (dA_size _ 8 (by omega)).symm))
  have HZ : Hid ((dA s 0).size = (dA s 8).size) := hid ((dA_size s 0 (by omega)).trans (dA_size s 8 (by omega)).symm)
  have HO : Hid ((dA s 8).all (·.oneCell') = true) := hid (by rw [dA_end]; exact byA_one _)
  have HIX : Hid (∀ (k x : Nat) (W : World), k < 8 → s.list[k]? = some x → (Instr.index 60 (.agg (stA s)) (.int .i64 (k : Int))).run Tryd.prog W = .ok (.int .u32 (x : Int)) W) := hid fun k x W hk hx => index_run _ k _ hk (stA_get s k x hx) W
  clear hl8
  go_enter Tryd.func52, Tryd.ntmps52
  go_wp2_with (first
        | (with_reducible refine wpList_load_row rfl 60 (.tmp 1) rfl w.heap.size rfl A8 (stA s) (0, 0) _ ?h1 Tryd.underlying60 rfl HI.out ?_))
  case h1 => rw [Below.heap_alloc _ _ _ (by simp; omega), Below.heap_alloc _ _ _ (by simp)]; exact heap_alloc_new w _
  go_loopg [7] 8 (fun r i wr => ∃ k : Nat, k + r = 8 ∧ i = .int .i64 (k : Int) ∧ wr.heap[w.heap.size + 1 + 1]? = some (.cells (dA s k) A32 (0, 0)) ∧ wr.heap[w.heap.size + 1]? = some (.cells (dA s 0) A32 (0, 0)) ∧ Below w.heap.size w wr)
  case atStart =>
    refine ⟨0, rfl, rfl, ?_, ?_, (((Below.refl _ _).alloc (Nat.le_refl _) _).alloc (by simp) _).alloc (by simp; omega) _⟩
    · rw [dA_zero]
      have := heap_alloc2_new (w.alloc (.cells (stA s) A8)) (.cells (List.replicate 32 (Value.int .u8 0)).toArray A32) (.cells (List.replicate 32 (Value.int .u8 0)).toArray A32)
      rw [World.size_alloc] at this
      exact this
    · rw [dA_zero]
      have := heap_alloc2_old (w.alloc (.cells (stA s) A8)) (.cells (List.replicate 32 (Value.int .u8 0)).toArray A32) (.cells (List.replicate 32 (Value.int .u8 0)).toArray A32)
      rw [World.size_alloc] at this
      exact this
  case round =>
    obtain ⟨k, hk, rfl, hd, hr, hb⟩ := hrel
    have HD := hid hd; have HR := hid hr; have HB := hid hb; have HK := hid hk
    have hkb : k ≤ 8 := by omega
    clear hd hr hb hk
    by_cases hlt : k < 8
    · have hx8 : (k : Int) < 8 := by omega
      have hk0 : (0 : Int) ≤ (k : Int) := by omega
      obtain ⟨x, hx⟩ : ∃ x, s.list[k]? = some x := ⟨_, List.getElem?_eq_getElem (by rw [HL8.out]; exact hlt)⟩
      have hxl : x < 4294967296 := St.list_lt s HS.out x (List.mem_of_getElem? hx)
      have hi2 : ∀ W : World, (Instr.index 60 (.agg (stA s)) (.int .i64 (k : Int))).run Tryd.prog W = .ok (.int .u32 (x : Int)) W := fun W => HIX.out k x W hlt hx
      have hc0 : wr.cell? ⟨w.heap.size + 1 + 1, 4 * k, none⟩ = some (.int .u8 0) := cell_of HD.out _ _ (dA_get s k 0 hlt (by omega))
      have hc1 : wr.cell? ⟨w.heap.size + 1 + 1, 4 * k + 1, none⟩ = some (.int .u8 0) := cell_of HD.out _ _ (dA_get s k 1 hlt (by omega))
      have hc2 : wr.cell? ⟨w.heap.size + 1 + 1, 4 * k + 2, none⟩ = some (.int .u8 0) := cell_of HD.out _ _ (dA_get s k 2 hlt (by omega))
      have hc3 : wr.cell? ⟨w.heap.size + 1 + 1, 4 * k + 3, none⟩ = some (.int .u8 0) := cell_of HD.out _ _ (dA_get s k 3 hlt (by omega))
      have hfz : ∀ j, wr.frozen? ⟨w.heap.size + 1 + 1, j, none⟩ = false := fun j => frozen_of_row _ _ _ _ _ HD.out
      have HX := hid hx
      clear hx
      go_wp2
      have v0 : (x : Int) / 16777216 = (((UInt8.ofNat (x / 16777216)).toNat : Nat) : Int) := by rw [ofNat_val]; omega
      have v1 : (x : Int) / 65536 % 256 = (((UInt8.ofNat (x / 65536)).toNat : Nat) : Int) := by rw [ofNat_val]; omega
      have v2 : (x : Int) / 256 % 256 = (((UInt8.ofNat (x / 256)).toNat : Nat) : Int) := by rw [ofNat_val]; omega
      have v3 : (x : Int) % 256 = (((UInt8.ofNat x).toNat : Nat) : Int) := by rw [ofNat_val]
      have hW := block_set (block_set (block_set (block_set HD.out (4 * k) (.int .u8 ((x : Int) / 16777216))) (4 * k + 1) (.int .u8 ((x : Int) / 65536 % 256))) (4 * k + 2) (.int .u8 ((x : Int) / 256 % 256))) (4 * k + 3) (.int .u8 ((x : Int) % 256))
      have hA : ((((dA s k).setIfInBounds (4 * k) (.int .u8 ((x : Int) / 16777216))).setIfInBounds (4 * k + 1) (.int .u8 ((x : Int) / 65536 % 256))).setIfInBounds (4 * k + 2) (.int .u8 ((x : Int) / 256 % 256))).setIfInBounds (4 * k + 3) (.int .u8 ((x : Int) % 256)) = dA s (k + 1) := by
        rw [v0, v1, v2, v3]; exact dA_next s k x hlt HX.out
      rw [hA] at hW
      have hk := HK.out
      go_roundg (8 - k - 1)
      case measure => omega
      case rel =>
        refine ⟨k + 1, by omega, by go_num, hW, ?_, (((HB.out.setCell (by simp; omega) _).setCell (by simp; omega) _).setCell (by simp; omega) _).setCell (by simp; omega) _⟩
        rw [heap_setCell_other _ _ _ _ (by simp), heap_setCell_other _ _ _ _ (by simp), heap_setCell_other _ _ _ _ (by simp), heap_setCell_other _ _ _ _ (by simp)]
        exact HR.out
    · obtain rfl : k = 8 := by omega
      go_wp2_with (first
        | (with_reducible refine wpList_load_row rfl 70 (.tmp 3) rfl (w.heap.size + 1 + 1) rfl A32 (dA s 8) (0, 0) _ HD.out Tryd.underlying70 rfl HI32.out ?_)
        | (with_reducible refine wpList_store_row rfl 70 (.tmp 2) _ rfl (w.heap.size + 1) (dA s 8) rfl rfl A32 (dA s 0) HR.out HI32.out HZ.out HO.out ?_))
      refine bodyPost_ret (v := .agg (dA s 8)) (results_cell_row rfl _ _ (w.heap.size + 1) A32 (dA s 8) (0, 0) _ rfl (setRow_heap _ _ _ _ _ _ HR.out) Tryd.underlying70 rfl HI32.out) rfl ⟨by rw [dA_end], ?_⟩
      exact below_setRow HB.out (by omega) _
end Go.Proofs.YtpdkpadpdkagoaaDoor
