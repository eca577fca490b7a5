/-
  Package sha: the words of a block.
-/
import Derived.Test.YtpdkpadpdkagoaaDoorSha1
import Derived.StillTailTactics
import Derived.Deep.WholeRow
namespace Go.Proofs.YtpdkpadpdkagoaaDoor
open Go.RowKit
set_option linter.unusedVariables false
set_option linter.unusedSimpArgs false

abbrev A64 : TypeId := 73

/-- Words as cells. -/
def wvs (xs : List Nat) : List Value := xs.map fun x => Value.int .u32 ((x : Nat) : Int)
@[simp] theorem wvs_length (xs : List Nat) : (wvs xs).length = xs.length := by simp [wvs]
/-- The array of words when k of them are laid. -/
def wcs (m : List UInt8) (k : Nat) : Array Value := (wvs (wordsTo m k) ++ List.replicate (64 - k) (Value.int .u32 0)).toArray
theorem wcs_zero (m : List UInt8) : wcs m 0 = (List.replicate 64 (Value.int .u32 0)).toArray := by simp [wcs, wordsTo, wvs]

theorem wcs_get (m : List UInt8) (k : Nat) (h : k < 64) : (wcs m k)[k]? = some (Value.int .u32 0) := by
  have h1 : ¬ k < (wvs (wordsTo m k)).length := by simp
  rw [wcs, List.getElem?_toArray, List.getElem?_append_right (by simp), List.getElem?_replicate, if_pos (by simp; omega)]
theorem wvs_append (xs ys : List Nat) : wvs (xs ++ ys) = wvs xs ++ wvs ys := by simp [wvs]
theorem wcs_set (m : List UInt8) (k x : Nat) (h : k < 64) (hx : wordsTo m (k + 1) = wordsTo m k ++ [x]) : (wcs m k).setIfInBounds k (Value.int .u32 (x : Int)) = wcs m (k + 1) := by
  have h64 : 64 - k = (64 - (k + 1)) + 1 := by omega
  rw [wcs, wcs, hx, wvs_append, h64, List.replicate_succ]
  simp only [List.setIfInBounds_toArray]
  congr 1
  rw [List.set_append_right _ _ (by simp)]
  simp [wvs]

theorem wcs_old (m : List UInt8) (k j : Nat) (h : j < k) : (wcs m k)[j]? = some (Value.int .u32 (((wordsTo m k).getD j 0 : Nat) : Int)) := by
  have h1 : j < (wordsTo m k).length := by simpa using h
  rw [wcs, List.getElem?_toArray, List.getElem?_append_left (by simpa using h), wvs, List.getElem?_map, List.getD_eq_getElem?_getD, List.getElem?_eq_getElem h1]
  rfl
theorem word_lt (m : List UInt8) (k j : Nat) (h : j < k) : (wordsTo m k).getD j 0 < 4294967296 := by
  have h1 : j < (wordsTo m k).length := by simpa using h
  rw [List.getD_eq_getElem?_getD, List.getElem?_eq_getElem h1]
  exact wordsTo_lt m k _ (List.getElem_mem h1)
theorem below_drewN {B : Nat} {a w : World} (h : Below B a w) (n : Nat) : Below B a (w.drewN n) := ⟨h.os, h.tape, h.output, h.size, h.block⟩
theorem below_setRow {B : Nat} {a w : World} (h : Below B a w) {g : Nat} (hg : B ≤ g) (cs : Array Value) : Below B a (w.setRow g cs) :=
  ⟨h.os, h.tape, h.output, by rw [size_setRow]; exact h.size, fun k hk => (setRow_other w g k cs (by omega)).trans (h.block k hk)⟩
theorem s0_bits (x : Nat) (hx : x < 4294967296) : bits .xor .u32 (bits .xor .u32 ((rotr x 7 : Nat) : Int) ((rotr x 18 : Nat) : Int)) ((x : Int) / 8) = ((s0 x : Nat) : Int) := by
  have h1 := rotr_lt x 7 hx (by omega)
  have h2 := rotr_lt x 18 hx (by omega)
  have e : (x : Int) / 8 = ((x / 8 : Nat) : Int) := by omega
  rw [e, u32_xor_nat _ _ h1 h2, u32_xor_nat _ _ (Nat.xor_lt_two_pow (n := 32) h1 h2) (by omega), s0]
theorem s1_bits (x : Nat) (hx : x < 4294967296) : bits .xor .u32 (bits .xor .u32 ((rotr x 17 : Nat) : Int) ((rotr x 19 : Nat) : Int)) ((x : Int) / 1024) = ((s1 x : Nat) : Int) := by
  have h1 := rotr_lt x 17 hx (by omega)
  have h2 := rotr_lt x 19 hx (by omega)
  have e : (x : Int) / 1024 = ((x / 1024 : Nat) : Int) := by omega
  rw [e, u32_xor_nat _ _ h1 h2, u32_xor_nat _ _ (Nat.xor_lt_two_pow (n := 32) h1 h2) (by omega), s1]
theorem next_bits (x y p q : Nat) (hx : x < 4294967296) (hy : y < 4294967296) :
    (bits .xor .u32 (bits .xor .u32 ((rotr y 17 : Nat) : Int) ((rotr y 19 : Nat) : Int)) ((y : Int) / 1024) + (p : Int) + bits .xor .u32 (bits .xor .u32 ((rotr x 7 : Nat) : Int) ((rotr x 18 : Nat) : Int)) ((x : Int) / 8) + (q : Int)) % 4294967296 = (((s1 y + p + s0 x + q) % 4294967296 : Nat) : Int) := by
  rw [s0_bits x hx, s1_bits y hy]
  omega
theorem info57 : (Tryd.prog.info? 73).map (·.size) = some 64 := by kernel_rfl
theorem wcs_size (m : List UInt8) (k : Nat) (h : k ≤ 64) : (wcs m k).size = 64 := by simp [wcs]; omega
theorem wcs_one (m : List UInt8) (k : Nat) : (wcs m k).all (·.oneCell') = true := by
  rw [Array.all_eq_true']
  intro v hv
  simp only [wcs, wvs, List.mem_toArray, List.mem_append, List.mem_map, List.mem_replicate] at hv
  rcases hv with ⟨x, _, rfl⟩ | ⟨_, rfl⟩ <;> rfl
theorem or_step (i a b : Nat) (ha : a % 2 ^ i = 0) (hb : b < 2 ^ i) (h1 : a < 4294967296) (h2 : b < 4294967296) : bits .or .u32 (a : Int) (b : Int) = ((a + b : Nat) : Int) := by
  rw [u32_or_nat a b h1 h2, nat_join i a b ha hb]
theorem word_bits (x0 x1 x2 x3 : Nat) (h0 : x0 < 256) (h1 : x1 < 256) (h2 : x2 < 256) (h3 : x3 < 256) :
    bits .or .u32 (bits .or .u32 (bits .or .u32 ((x0 : Int) * 16777216) ((x1 : Int) * 65536)) ((x2 : Int) * 256)) (x3 : Int) = ((((x0 * 256 + x1) * 256 + x2) * 256 + x3 : Nat) : Int) := by
  have e0 : (x0 : Int) * 16777216 = ((x0 * 16777216 : Nat) : Int) := by omega
  have e1 : (x1 : Int) * 65536 = ((x1 * 65536 : Nat) : Int) := by omega
  have e2 : (x2 : Int) * 256 = ((x2 * 256 : Nat) : Int) := by omega
  have k1 := or_step 24 (x0 * 16777216) (x1 * 65536) (by omega) (by omega) (by omega) (by omega)
  have k2 := or_step 16 (x0 * 16777216 + x1 * 65536) (x2 * 256) (by omega) (by omega) (by omega) (by omega)
  have k3 := or_step 8 (x0 * 16777216 + x1 * 65536 + x2 * 256) x3 (by omega) (by omega) (by omega) (by omega)
  rw [e0, e1, e2, k1, k2, k3]
  omega

set_option maxRecDepth 100000 in
set_option maxHeartbeats 800000 in
theorem words_any (b o : Nat) (m : List UInt8) (c : Nat) (w : World) (hm : m.length = 64) (hc : 64 ≤ c) (hc2 : c ≤ 9223372036854775807) (hb : b < w.heap.size) (hl : Lie w w.heap.size (some ⟨b, o, none⟩) (bvs m)) :
    Calls Tryd.prog 48 #[.slice (some ⟨b, o, none⟩) 64 c] w fun e w' => e = .returned (.agg (wcs m 64)) ∧ Below w.heap.size w w' := by
  have HL := hid hl
  have HM := hid hm
  clear hl hm
  go_enter Tryd.func48, Tryd.ntmps48
  go_wp2
  go_loopg [11] 16 (fun g i wr => ∃ k : Nat, k + g = 16 ∧ i = .int .i64 (k : Int) ∧ wr.heap[w.heap.size + 1]? = some (.cells (wcs m k) A64 (0, 0)) ∧ wr.heap[w.heap.size]? = some (.cells (wcs m 0) A64 (0, 0)) ∧ Below w.heap.size w wr)
  case atStart =>
    refine ⟨0, rfl, rfl, ?_, ?_, ((Below.refl _ _).alloc (Nat.le_refl _) _).alloc (by simp) _⟩
    · rw [wcs_zero]; exact heap_alloc2_new w _ _
    · rw [wcs_zero]; exact heap_alloc2_old w _ _
  case round =>
    obtain ⟨k, hk, rfl, hw1, hw0, hbel⟩ := hrel
    have HW1 := hid hw1; have HW0 := hid hw0; have HB := hid hbel
    have HK := hid hk
    have hkb : k ≤ 16 := by omega
    clear hw1 hw0 hbel hk
    by_cases hlt : k < 16
    · have hx : (k : Int) < 16 := by omega
      have hx64 : (k : Int) < 64 := by omega
      have hk0 : (0 : Int) ≤ (k : Int) := by omega
      have hB := HB.out
      have hl2 : Lie wr w.heap.size (some ⟨b, o, none⟩) (bvs m) := HL.out.below hB
      have hb4 : ∀ j, j < 4 → ∃ x : UInt8, x = m.getD (4 * k + j) 0 ∧ wr.cell? ⟨b, o + 4 * k + j, none⟩ = some (.int .u8 (x.toNat : Int)) := by
        intro j hj
        obtain ⟨b', o', h1, _, h2⟩ := hl2.byte (k := 4 * k + j) (by rw [HM.out]; omega)
        simp only [Option.some.injEq, Addr.mk.injEq] at h1
        obtain ⟨rfl, rfl, _⟩ := h1
        refine ⟨m[4 * k + j]'(by rw [HM.out]; omega), ?_, by rw [Nat.add_assoc]; exact h2⟩
        rw [List.getD_eq_getElem?_getD, List.getElem?_eq_getElem]; rfl
      obtain ⟨x0, he0, hc0⟩ := hb4 0 (by omega)
      obtain ⟨x1, he1, hc1⟩ := hb4 1 (by omega)
      obtain ⟨x2, he2, hc2'⟩ := hb4 2 (by omega)
      obtain ⟨x3, he3, hc3⟩ := hb4 3 (by omega)
      rw [Nat.add_zero] at hc0
      have hx0 := x0.toNat_lt; have hx1 := x1.toNat_lt; have hx2 := x2.toNat_lt; have hx3 := x3.toNat_lt
      have HE0 := hid he0; have HE1 := hid he1; have HE2 := hid he2; have HE3 := hid he3
      have hvk : wr.cell? ⟨w.heap.size + 1, k, none⟩ = some (.int .u32 0) := cell_of HW1.out k _ (wcs_get m k (by omega))
      have hfz : wr.frozen? ⟨w.heap.size + 1, k, none⟩ = false := frozen_of_row _ _ _ _ _ HW1.out
      clear hl2 hb4 he0 he1 he2 he3 hB
      go_wp2
      refine wp_region_still_tail 24 (by kernel_rfl) (by kernel_rfl) ?_
      simp only [List.take_succ_cons, List.take_zero, List.drop_succ_cons, List.drop_zero]
      repeat still_step
      refine wpStill_nil ?_
      change wpList _ _ _ _ _ wr.drew
      go_wp2
      have hnext : wordsTo m (k + 1) = wordsTo m k ++ [((x0.toNat * 256 + x1.toNat) * 256 + x2.toNat) * 256 + x3.toNat] := by
        simp only [wordsTo, if_pos hlt, word4]
        rw [HE0.out, HE1.out, HE2.out, HE3.out]
        simp only [Nat.add_zero]
      have hW := block_set HW1.out k (Value.int .u32 ((((x0.toNat * 256 + x1.toNat) * 256 + x2.toNat) * 256 + x3.toNat : Nat) : Int))
      rw [wcs_set m k _ (by omega) hnext] at hW
      rw [← word_bits x0.toNat x1.toNat x2.toNat x3.toNat hx0 hx1 hx2 hx3] at hW
      have hk := HK.out
      go_roundg (16 - k - 1)
      case measure => omega
      case rel => exact ⟨k + 1, by omega, by go_num, hW, (heap_setCell_other _ _ _ _ (by simp)).trans HW0.out, (HB.out.setCell (by simp) _).drew⟩
    · obtain rfl : k = 16 := by have := HK.out; omega
      clear HK hkb hlt
      have HL := hid HL.out
      go_wp2
      go_loopg [6] 48 (fun g i wr => ∃ k : Nat, k + g = 64 ∧ 16 ≤ k ∧ i = .int .i64 (k : Int) ∧ wr.heap[w.heap.size + 1]? = some (.cells (wcs m k) A64 (0, 0)) ∧ wr.heap[w.heap.size]? = some (.cells (wcs m 0) A64 (0, 0)) ∧ Below w.heap.size w wr)
      case atStart => exact ⟨16, rfl, by omega, rfl, HW1.out, HW0.out, HB.out⟩
      case round =>
        clear HW1 HW0 HB
        obtain ⟨k, hk, hk16, rfl, hw1, hw0, hbel⟩ := hrel
        have HW1 := hid hw1; have HW0 := hid hw0; have HB := hid hbel
        have HK := hid hk
        have hkb : k ≤ 64 := by omega
        clear hw1 hw0 hbel hk
        by_cases hlt : k < 64
        · have hx64 : (k : Int) < 64 := by omega
          have hk0 : (0 : Int) ≤ (k : Int) := by omega
          have hold : ∀ j, 0 < j → j ≤ 16 → ∃ x : Nat, x = (wordsTo m k).getD (k - j) 0 ∧ x < 4294967296 ∧ wr.cell? ⟨w.heap.size + 1, k - j, none⟩ = some (.int .u32 (x : Int)) := fun j h0 hj =>
            ⟨_, rfl, word_lt m k _ (by omega), cell_of HW1.out (k - j) _ (wcs_old m k _ (by omega))⟩
          obtain ⟨x, hex, hx, hcx⟩ := hold 15 (by omega) (by omega)
          obtain ⟨y, hey, hy, hcy⟩ := hold 2 (by omega) (by omega)
          obtain ⟨p, hep, hp, hcp⟩ := hold 7 (by omega) (by omega)
          obtain ⟨q, heq, hq, hcq⟩ := hold 16 (by omega) (by omega)
          have HX := hid hex; have HY := hid hey; have HP := hid hep; have HQ := hid heq
          have hvk : wr.cell? ⟨w.heap.size + 1, k, none⟩ = some (.int .u32 0) := cell_of HW1.out k _ (wcs_get m k (by omega))
          have hfz : wr.frozen? ⟨w.heap.size + 1, k, none⟩ = false := frozen_of_row _ _ _ _ _ HW1.out
          clear hold hex hey hep heq
          go_wp2
          go_quiet (fail)
          go_wp2_with fail
          refine (right_any x 7 7 _ rfl hx (by omega) (by omega)).mono ?_
          rintro e w' ⟨rfl, rfl⟩
          go_wp2_with fail
          refine (right_any x 18 18 _ rfl hx (by omega) (by omega)).mono ?_
          rintro e w' ⟨rfl, rfl⟩
          go_wp2_with fail
          refine (right_any y 17 17 _ rfl hy (by omega) (by omega)).mono ?_
          rintro e w' ⟨rfl, rfl⟩
          go_wp2_with fail
          refine (right_any y 19 19 _ rfl hy (by omega) (by omega)).mono ?_
          rintro e w' ⟨rfl, rfl⟩
          go_wp2
          have q1 : IntKind.i64.wrap ((k : Int) - 7) = (k : Int) - 7 := IntWalk.i64_in _ (by omega)
          have q2 : (7 : Int) ≤ (k : Int) := by omega
          have q3 : (k : Int) - 7 < 64 := by omega
          have q4 : ((k : Int) - 7).toNat = k - 7 := by omega
          have q5 : IntKind.i64.wrap ((k : Int) - 16) = (k : Int) - 16 := IntWalk.i64_in _ (by omega)
          have q6 : (16 : Int) ≤ (k : Int) := by omega
          have q7 : (k : Int) - 16 < 64 := by omega
          have q8 : ((k : Int) - 16).toNat = k - 16 := by omega
          have hcp9 : (wr.drewN nq).cell? ⟨w.heap.size + 1, k - 7, none⟩ = some (.int .u32 (p : Int)) := hcp
          have hcq9 : (wr.drewN nq).cell? ⟨w.heap.size + 1, k - 16, none⟩ = some (.int .u32 (q : Int)) := hcq
          have hvk9 : (wr.drewN nq).cell? ⟨w.heap.size + 1, k, none⟩ = some (.int .u32 0) := hvk
          have hfz9 : (wr.drewN nq).frozen? ⟨w.heap.size + 1, k, none⟩ = false := hfz
          have H19 : Hid ((wr.drewN nq).heap[w.heap.size + 1]? = some (.cells (wcs m k) A64 (0, 0))) := HW1
          have H09 : Hid ((wr.drewN nq).heap[w.heap.size]? = some (.cells (wcs m 0) A64 (0, 0))) := HW0
          have HB9 : Hid (Below w.heap.size w (wr.drewN nq)) := hid (below_drewN HB.out nq)
          clear hcx hcy hcp hcq hvk hfz HW1 HW0 HB
          generalize wr.drewN nq = w9 at *
          refine wp_region_still_tail 15 (by kernel_rfl) (by kernel_rfl) ?_
          simp only [List.take_succ_cons, List.take_zero, List.drop_succ_cons, List.drop_zero]
          repeat still_step
          refine wpStill_nil ?_
          change wpList _ _ _ _ _ w9.drew
          go_wp2
          have hnext : wordsTo m (k + 1) = wordsTo m k ++ [(s1 y + p + s0 x + q) % 4294967296] := by
            have h16 : ¬ k < 16 := by omega
            rw [HX.out, HY.out, HP.out, HQ.out]
            simp only [wordsTo, if_neg h16]
          have hW := block_set H19.out k (Value.int .u32 (((s1 y + p + s0 x + q) % 4294967296 : Nat) : Int))
          rw [wcs_set m k _ hlt hnext, ← next_bits x y p q hx hy] at hW
          have hk := HK.out
          go_roundg (64 - k - 1)
          case measure => omega
          case rel => exact ⟨k + 1, by omega, by omega, by go_num, hW, (heap_setCell_other _ _ _ _ (by simp)).trans H09.out, (HB9.out.setCell (by simp) _).drew⟩
        · obtain rfl : k = 64 := by omega
          have hs := wcs_size m 64 (by omega)
          have hs0 := wcs_size m 0 (by omega)
          have hi : (Tryd.prog.info? 73).map (·.size) = some (wcs m 64).size := info57.trans (congrArg some hs.symm)
          have HI := hid hi
          have HS : Hid ((wcs m 0).size = (wcs m 64).size) := hid (hs0.trans hs.symm)
          have HO := hid (wcs_one m 64)
          clear hi hs hs0
          go_wp2_with (first
            | (with_reducible refine wpList_load_row rfl 73 (.tmp 3) rfl (w.heap.size + 1) rfl A64 (wcs m 64) (0, 0) _ HW1.out Tryd.underlying73 rfl HI.out ?_)
            | (with_reducible refine wpList_store_row rfl 73 (.tmp 2) _ rfl w.heap.size (wcs m 64) rfl rfl A64 (wcs m 0) HW0.out HI.out HS.out HO.out ?_))
          refine bodyPost_ret (v := .agg (wcs m 64)) (results_cell_row rfl _ _ w.heap.size A64 (wcs m 64) (0, 0) _ rfl (setRow_heap _ _ _ _ _ _ HW0.out) Tryd.underlying73 rfl HI.out) rfl ⟨rfl, ?_⟩
          exact below_setRow HB.out (Nat.le_refl _) _
end Go.Proofs.YtpdkpadpdkagoaaDoor
