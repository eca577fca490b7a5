/-
  Texts of this claim in one file: ScI.
-/
import Derived.Test.YtgehfbcagaaggaaGreatDoorPk43
section
namespace Go.Proofs.YtgehfbcagaaggaaGreatDoor
open Go Go.RowKit
set_option linter.unusedVariables false
set_option linter.unusedSimpArgs false
theorem sq_allocS {W : World} {A : Option Addr} {c : Nat} {xs : List Value} (h : Sq W W.heap.size A c xs) (o : Obj) : Sq (W.alloc o) (W.alloc o).heap.size A c xs := (h.alloc (Nat.le_refl _) o).more (by simp)
theorem one_words : sA 1 = e4 1 0 0 0 := by unfold sA; exact eA_small 1 (by omega)
set_option maxRecDepth 100000 in
set_option maxHeartbeats 1000000 in
theorem ScOf_e (A : Option Addr) (xs : List UInt8) (c : Nat) (w : World) (hS : Sq w w.heap.size A c (bvs xs)) (hl : xs.length ≤ 1000) : Calls Tryz.prog 68 #[.slice A xs.length c] w (ScR w (ofL xs)) := by
  obtain ⟨V, hV⟩ : ∃ V, V = ofL xs := ⟨_, rfl⟩
  have hcap := hS.cap
  rw [bvs_length] at hcap
  obtain ⟨k, hk⟩ : ∃ k, k = min xs.length 64 := ⟨_, rfl⟩
  have htl : (xs.take 64).length = k := by rw [List.length_take, hk]; omega
  have ht : Sq w w.heap.size A c (bvs (xs.take 64)) := by
    have h := hS.take 64
    unfold bvs at h ⊢
    rw [List.map_take]
    exact h
  have HT : Hid (∀ (c' : Nat) (W : World), Sq W W.heap.size A c' (bvs (xs.take 64)) → Calls Tryz.prog 73 #[.agg (e4 1 0 0 0), .slice A k c'] W (ScR W V)) := hid fun c' W h => by
    have := times_s 1 A (xs.take 64) c' W (by decide +kernel) h (by omega)
    rw [htl, Nat.one_mul, one_words] at this
    rw [hV]; exact this
  have hmin : (if (64 : Int) < (xs.length : Int) then (64 : Int) else (xs.length : Int)) = (k : Int) := by split <;> omega
  have hkc : (k : Int) ≤ (c : Int) := by omega
  have hk0 : (0 : Int) ≤ (k : Int) := by omega
  have HTQ := hid ht
  have HA : Hid (Below w.heap.size w (w.alloc (.cells z4 ST))) := hid ((Below.refl _ _).alloc (Nat.le_refl _) _)
  have HZ : Hid ((w.alloc (.cells z4 ST)).heap[w.heap.size]? = some (.cells z4 ST (0, 0))) := hid (blkN rfl _ _)
  rw [← hV]
  clear hV hS hk htl ht
  unfold ScR at *
  go_enter Tryz.func68, Tryz.ntmps68
  have fin : ∀ (w1 : World), Below (w.alloc (.cells z4 ST)).heap.size (w.alloc (.cells z4 ST)) w1 → Hid (w1.heap[w.heap.size]? = some (.cells z4 ST (0, 0))) ∧ Hid (Below w.heap.size w w1) := fun w1 hb =>
    ⟨hid (block_below hb (by simp) HZ.out), hid (HA.out.trans (hb.mono (by simp)))⟩
  cases A with
  | none =>
    go_wp2_with fail
    refine (HT.out c _ (by exact sq_allocS HTQ.out _)).mono ?_
    rintro e w1 ⟨rfl, hb⟩
    obtain ⟨Z, HB⟩ := fin w1 hb
    clear hb fin HA HZ HT HTQ
    go_wp2_with (with_reducible refine wpList_store_row rfl ST (.tmp 2) _ rfl w.heap.size (sA V) rfl rfl ST z4 Z.out (infoSA _) (sizeZ4 _) (oneSA _) ?_)
    exact bodyPost_ret (v := .agg (sA V)) (results_cell_row rfl _ _ w.heap.size ST _ (0, 0) _ rfl (setRow_heap _ _ _ _ _ _ Z.out) Tryz.underlying62 rfl (infoSA _)) rfl ⟨rfl, belowRow HB.out (Nat.le_refl _) _⟩
  | some a =>
    obtain ⟨b, o, sp⟩ := a
    go_wp2_with fail
    refine (HT.out c _ (by exact sq_allocS HTQ.out _)).mono ?_
    rintro e w1 ⟨rfl, hb⟩
    obtain ⟨Z, HB⟩ := fin w1 hb
    clear hb fin HA HZ HT HTQ
    go_wp2_with (with_reducible refine wpList_store_row rfl ST (.tmp 2) _ rfl w.heap.size (sA V) rfl rfl ST z4 Z.out (infoSA _) (sizeZ4 _) (oneSA _) ?_)
    exact bodyPost_ret (v := .agg (sA V)) (results_cell_row rfl _ _ w.heap.size ST _ (0, 0) _ rfl (setRow_heap _ _ _ _ _ _ Z.out) Tryz.underlying62 rfl (infoSA _)) rfl ⟨rfl, belowRow HB.out (Nat.le_refl _) _⟩
set_option maxHeartbeats 1000000 in
theorem Mul_s (x y : Nat) (w : World) (hx : x < ordL) (hy : y < ordL) : Calls Tryz.prog 46 #[.agg (sA x), .agg (sA y)] w (ScR w (x * y % ordL)) := by
  have hp := ordL_big
  obtain ⟨V, hV⟩ : ∃ V, V = x * y % ordL := ⟨_, rfl⟩
  rw [← hV]
  have KB : Hid (∀ W, Calls Tryz.prog 47 #[.agg (sA y)] W fun e w' => ∃ v, e = .returned v ∧ OwnB w' W.heap.size v (leB 32 y) ∧ Below W.heap.size W w') := hid fun W => Bytes_s y W (by omega)
  have KT : Hid (∀ (A : Option Addr) (c : Nat) (W : World), Sq W W.heap.size A c (bvs (leB 32 y)) → Calls Tryz.prog 73 #[.agg (sA x), .slice A 32 c] W fun e w' => e = .returned (.agg (sA V)) ∧ Below W.heap.size W w') := hid fun A c W h => by
    have := times_s x A (leB 32 y) c W hx h (by rw [leB_length]; omega)
    rw [leB_length, leN_leB, Nat.mod_eq_of_lt (a := y) (Nat.lt_trans hy (by decide +kernel))] at this
    rw [hV]; exact this
  clear hp hV hx hy
  have F0 := hid (Cl_three w (sA x) (sA y) z4)
  have HB0 : Hid (Below w.heap.size w (((w.alloc (.cells (sA x) ST)).alloc (.cells (sA y) ST)).alloc (.cells z4 ST))) := hid ((((Below.refl _ _).alloc (Nat.le_refl _) _).alloc (by simp) _).alloc (by simp; omega) _)
  unfold ScR
  go_enter Tryz.func46, Tryz.ntmps46
  go_wp2_with fail
  generalize hw1 : (((w.alloc (.cells (sA x) ST)).alloc (.cells (sA y) ST)).alloc (.cells z4 ST)) = w1 at F0 HB0 ⊢
  clear hw1
  generalize hb2 : w.heap.size + 1 + 1 = b2 at F0 ⊢
  generalize hb1 : w.heap.size + 1 = b1 at F0 ⊢
  generalize hb0 : w.heap.size = b0 at F0 HB0 ⊢
  have HL : Hid (b0 ≤ b2 ∧ b2 < w1.heap.size) := hid ⟨by omega, block_lt F0.out.2.2.1⟩
  have HBw := hid hb0
  clear hb0 hb1 hb2
  refine wp_region_gsA 3 (by kernel_rfl) (by decide) ?_
  refine wpGsA_take (i := 0) (.agg (sA x)) rfl (by kernel_rfl) (by kernel_rfl) (fun _ _ _ h => h) (yieldsG_part rfl ST (.tmp 2) rfl b0 0 rfl ST (sA x) (sA x) (0, 0) _ F0.out.1 (sA_all _) Tryz.underlying62 rfl (infoSA _)) ?_
  (try simp only [Act.put, List.getElem_toArray, List.getElem_cons_succ, List.getElem_cons_zero, List.setIfInBounds_toArray, List.set_cons_zero, List.set_cons_succ])
  refine wpGsA_take (i := 1) (.agg (sA y)) rfl (by kernel_rfl) (by kernel_rfl) (fun _ _ _ h => h) (yieldsG_part rfl ST (.tmp 3) rfl b1 0 rfl ST (sA y) (sA y) (0, 0) _ F0.out.2.1 (sA_all _) Tryz.underlying62 rfl (infoSA _)) ?_
  (try simp only [Act.put, List.getElem_toArray, List.getElem_cons_succ, List.getElem_cons_zero, List.setIfInBounds_toArray, List.set_cons_zero, List.set_cons_succ])
  intro w2 hb2
  refine wpGs_call (i := 2) (R := fun v w' => OwnB w' w2.heap.size v (leB 32 y)) rfl rfl (by go_simp) (KB.out w2) hb2 (by kernel_rfl) ?_
  intro v w3 w4 ho h3 h4
  (try simp only [Act.put, List.getElem_toArray, List.getElem_cons_succ, List.getElem_cons_zero, List.setIfInBounds_toArray, List.set_cons_zero, List.set_cons_succ])
  refine wpGs_end (by kernel_rfl) ?_
  simp only [List.drop_succ_cons, List.drop_zero]
  obtain ⟨A, c, rfl, hs⟩ := own_sl ho
  have hq : Sq w4 w4.heap.size A c (bvs (leB 32 y)) := ((hs.sq).below h4).more h4.size
  rw [leB_length]
  have HQ := hid hq
  have hb4 : Below w1.heap.size w1 w4 := (hb2.trans (h3.mono hb2.size)).trans (h4.mono (Nat.le_trans hb2.size h3.size))
  have F2 := hid (F0.out.on hb4)
  have HB2 : Hid (Below b0 w w4) := hid (HB0.out.trans (hb4.mono (by have := HL.out; omega)))
  have HM : Hid (b0 ≤ w4.heap.size) := hid (by have := HL.out; have := hb4.size; omega)
  clear hq hs ho h3 h4 hb4 hb2
  go_wp2_with fail
  refine (KT.out _ _ _ HQ.out).mono ?_
  rintro e w5 ⟨rfl, hb⟩
  have Z : Hid (w5.heap[b2]? = some (.cells z4 ST (0, 0))) := hid (F2.out.on hb).2.2.1
  have HB5 : Hid (Below b0 w w5) := hid (HB2.out.trans (hb.mono HM.out))
  clear hb F2
  go_wp2_with (with_reducible refine wpList_store_row rfl ST (.tmp 4) _ rfl b2 (sA V) rfl rfl ST z4 Z.out (infoSA _) (sizeZ4 _) (oneSA _) ?_)
  refine bodyPost_ret (v := .agg (sA V)) (results_cell_row rfl _ _ b2 ST _ (0, 0) _ rfl (setRow_heap _ _ _ _ _ _ Z.out) Tryz.underlying62 rfl (infoSA _)) rfl ⟨rfl, ?_⟩
  rw [HBw.out]
  exact belowRow HB5.out HL.out.1 _
section
variable (n m : Nat) (w : World) (hn : n < ordL) (hm : m < ordL)
include hn
include hm
theorem ScAdd_e : Calls Tryz.prog 45 #[.agg (sA n), .agg (sA m)] w (ScR w ((n + m) % ordL)) := Add_s n m w hn hm
theorem ScMul_e : Calls Tryz.prog 46 #[.agg (sA n), .agg (sA m)] w (ScR w (n * m % ordL)) := Mul_s n m w hn hm
end
end Go.Proofs.YtgehfbcagaaggaaGreatDoor
end
