/-
  Texts of this claim in one file: ScI.
-/
import Derived.Test.YtpdgedeghjfaaaaGreatDoorPk41
section
namespace Go.Proofs.YtpdgedeghjfaaaaGreatDoor
open Go Go.RowKit
set_option linter.unusedVariables false
set_option linter.unusedSimpArgs false
theorem sq_allocS {W : World} {A : Option Addr} {c : Nat} {xs : List Value} (h : Sq W W.heap.size A c xs) (o : Obj) : Sq (W.alloc o) (W.alloc o).heap.size A c xs := (h.alloc (Nat.le_refl _) o).more (by simp)
theorem one_words : sA 1 = e4 1 0 0 0 := by unfold sA; exact eA_small 1 (by omega)
set_option maxRecDepth 100000 in
set_option maxHeartbeats 1000000 in
theorem ScOf_e (A : Option Addr) (xs : List UInt8) (c : Nat) (w : World) (hS : Sq w w.heap.size A c (bvs xs)) (hl : xs.length ≤ 1000) : Calls Tryz.prog 13 #[.slice A xs.length c] w (ScR w (ofL xs)) := by
  obtain ⟨V, hV⟩ : ∃ V, V = ofL xs := ⟨_, rfl⟩
  have hcap := hS.cap
  rw [bvs_length] at hcap
  obtain ⟨k, hk⟩ : ∃ k, k = min xs.length 64 := ⟨_, rfl⟩
  have htl : (xs.take 64).length = k := by rw [List.length_take, hk]; omega
  have ht : Sq w w.heap.size A c (bvs (xs.take 64)) := by
    have h := hS.take 64
    unfold bvs at h ⊢
    rw [List.map_take]
    exact h
  have HT : Hid (∀ (c' : Nat) (W : World), Sq W W.heap.size A c' (bvs (xs.take 64)) → Calls Tryz.prog 35 #[.agg (e4 1 0 0 0), .slice A k c'] W (ScR W V)) := hid fun c' W h => by
    have := times_s 1 A (xs.take 64) c' W (by decide +kernel) h (by omega)
    rw [htl, Nat.one_mul, one_words] at this
    rw [hV]; exact this
  have hmin : (if (64 : Int) < (xs.length : Int) then (64 : Int) else (xs.length : Int)) = (k : Int) := by split <;> omega
  have hkc : (k : Int) ≤ (c : Int) := by omega
  have hk0 : (0 : Int) ≤ (k : Int) := by omega
  have HTQ := hid ht
  have HA : Hid (Below w.heap.size w (w.alloc (.cells z4 ST))) := hid ((Below.refl _ _).alloc (Nat.le_refl _) _)
  have HZ : Hid ((w.alloc (.cells z4 ST)).heap[w.heap.size]? = some (.cells z4 ST (0, 0))) := hid (blkN rfl _ _)
  rw [← hV]
  clear hV hS hk htl ht
  unfold ScR at *
  go_enter Tryz.func13, Tryz.ntmps13
  have fin : ∀ (w1 : World), Below (w.alloc (.cells z4 ST)).heap.size (w.alloc (.cells z4 ST)) w1 → Hid (w1.heap[w.heap.size]? = some (.cells z4 ST (0, 0))) ∧ Hid (Below w.heap.size w w1) := fun w1 hb =>
    ⟨hid (block_below hb (by simp) HZ.out), hid (HA.out.trans (hb.mono (by simp)))⟩
  cases A with
  | none =>
    go_wp2_with fail
    refine (HT.out c _ (by exact sq_allocS HTQ.out _)).mono ?_
    rintro e w1 ⟨rfl, hb⟩
    obtain ⟨Z, HB⟩ := fin w1 hb
    clear hb fin HA HZ HT HTQ
    go_wp2_with (with_reducible refine wpList_store_row rfl ST (.tmp 2) _ rfl w.heap.size (sA V) rfl rfl ST z4 Z.out (infoSA _) (sizeZ4 _) (oneSA _) ?_)
    exact bodyPost_ret (v := .agg (sA V)) (results_cell_row rfl _ _ w.heap.size ST _ (0, 0) _ rfl (setRow_heap _ _ _ _ _ _ Z.out) Tryz.underlying41 rfl (infoSA _)) rfl ⟨rfl, belowRow HB.out (Nat.le_refl _) _⟩
  | some a =>
    obtain ⟨b, o, sp⟩ := a
    go_wp2_with fail
    refine (HT.out c _ (by exact sq_allocS HTQ.out _)).mono ?_
    rintro e w1 ⟨rfl, hb⟩
    obtain ⟨Z, HB⟩ := fin w1 hb
    clear hb fin HA HZ HT HTQ
    go_wp2_with (with_reducible refine wpList_store_row rfl ST (.tmp 2) _ rfl w.heap.size (sA V) rfl rfl ST z4 Z.out (infoSA _) (sizeZ4 _) (oneSA _) ?_)
    exact bodyPost_ret (v := .agg (sA V)) (results_cell_row rfl _ _ w.heap.size ST _ (0, 0) _ rfl (setRow_heap _ _ _ _ _ _ Z.out) Tryz.underlying41 rfl (infoSA _)) rfl ⟨rfl, belowRow HB.out (Nat.le_refl _) _⟩
section
variable (n m : Nat) (w : World) (hn : n < ordL) (hm : m < ordL)
include hn
include hm
end
end Go.Proofs.YtpdgedeghjfaaaaGreatDoor
end
