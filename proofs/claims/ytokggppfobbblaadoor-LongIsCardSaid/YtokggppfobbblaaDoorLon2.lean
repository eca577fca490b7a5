/-
  Package long: the words of a block.
-/
import Derived.Test.YtokggppfobbblaaDoorLon1
import Derived.Test.YtokggppfobbblaaDoorSha2
import Derived.Test.YtokggppfobbblaaDoorQuiT
namespace Go.Proofs.YtokggppfobbblaaDoor
open Go.RowKit
set_option linter.unusedVariables false
set_option linter.unusedSimpArgs false

abbrev A80 : TypeId := 88
/-- Words of 64 bits as cells. -/
def uvs (xs : List Nat) : List Value := xs.map fun x => Value.int .u64 ((x : Nat) : Int)
@[simp] theorem uvs_length (xs : List Nat) : (uvs xs).length = xs.length := by simp [uvs]
theorem uvs_append (xs ys : List Nat) : uvs (xs ++ ys) = uvs xs ++ uvs ys := by simp [uvs]
theorem uvs_one (xs : List Nat) : ∀ u ∈ uvs xs, u.oneCell' = true := by
  intro u hu
  simp only [uvs, List.mem_map] at hu
  obtain ⟨x, _, rfl⟩ := hu
  rfl
/-- The array of words when k of them are laid. -/
def wcL (m : List UInt8) (k : Nat) : Array Value := (uvs (wordsToL m k) ++ List.replicate (80 - k) (Value.int .u64 0)).toArray
theorem wcL_zero (m : List UInt8) : wcL m 0 = (List.replicate 80 (Value.int .u64 0)).toArray := by simp [wcL, wordsToL, uvs]
theorem wcL_get (m : List UInt8) (k : Nat) (h : k < 80) : (wcL m k)[k]? = some (Value.int .u64 0) := by
  rw [wcL, List.getElem?_toArray, List.getElem?_append_right (by simp), List.getElem?_replicate, if_pos (by simp; omega)]
theorem wcL_set (m : List UInt8) (k x : Nat) (h : k < 80) (hx : wordsToL m (k + 1) = wordsToL m k ++ [x]) : (wcL m k).setIfInBounds k (Value.int .u64 (x : Int)) = wcL m (k + 1) := by
  have h64 : 80 - k = (80 - (k + 1)) + 1 := by omega
  rw [wcL, wcL, hx, uvs_append, h64, List.replicate_succ]
  simp only [List.setIfInBounds_toArray]
  congr 1
  rw [List.set_append_right _ _ (by simp)]
  simp [uvs]
theorem wcL_old (m : List UInt8) (k j : Nat) (h : j < k) : (wcL m k)[j]? = some (Value.int .u64 (((wordsToL m k).getD j 0 : Nat) : Int)) := by
  have h1 : j < (wordsToL m k).length := by simpa using h
  rw [wcL, List.getElem?_toArray, List.getElem?_append_left (by simpa using h), uvs, List.getElem?_map, List.getD_eq_getElem?_getD, List.getElem?_eq_getElem h1]
  rfl
theorem wordL_lt (m : List UInt8) (k j : Nat) (h : j < k) : (wordsToL m k).getD j 0 < 18446744073709551616 := by
  have h1 : j < (wordsToL m k).length := by simpa using h
  rw [List.getD_eq_getElem?_getD, List.getElem?_eq_getElem h1]
  exact wordsToL_lt m k _ (List.getElem_mem h1)
theorem info80 : (Tryd.prog.info? 88).map (·.size) = some 80 := by kernel_rfl
theorem wcL_size (m : List UInt8) (k : Nat) (h : k ≤ 80) : (wcL m k).size = 80 := by simp [wcL]; omega
theorem wcL_one (m : List UInt8) (k : Nat) : (wcL m k).all (·.oneCell') = true := by
  rw [Array.all_eq_true']
  intro v hv
  simp only [wcL, uvs, List.mem_toArray, List.mem_append, List.mem_map, List.mem_replicate] at hv
  rcases hv with ⟨x, _, rfl⟩ | ⟨_, rfl⟩ <;> rfl
/-- .. and the next one in parts. -/
def wcP (m : List UInt8) (k T : Nat) : Array Value := (wcL m k).setIfInBounds k (Value.int .u64 (T : Int))
theorem wcP_zero (m : List UInt8) (k : Nat) (h : k < 80) : wcP m k 0 = wcL m k := by
  rw [wcP]
  apply Array.ext_getElem?
  intro i
  rw [Array.getElem?_setIfInBounds]
  split
  · rename_i e; subst e
    rw [if_pos (by rw [wcL_size m k (by omega)]; exact h), wcL_get m k h]; rfl
  · rfl
theorem wcP_get (m : List UInt8) (k T : Nat) (h : k < 80) : (wcP m k T)[k]? = some (Value.int .u64 (T : Int)) := by
  rw [wcP, Array.getElem?_setIfInBounds, if_pos rfl, if_pos (by rw [wcL_size m k (by omega)]; exact h)]
theorem wcP_set (m : List UInt8) (k T T' : Nat) : (wcP m k T).setIfInBounds k (Value.int .u64 (T' : Int)) = wcP m k T' := by
  rw [wcP, wcP, Array.setIfInBounds_setIfInBounds]
theorem word_take (xs : List UInt8) (j : Nat) (h : j < xs.length) : beNum 0 (xs.take (j + 1)) = beNum 0 (xs.take j) * 256 + xs[j].toNat := by
  rw [List.take_succ_eq_append_getElem h, beNum_snoc]
theorem be_take_lt (xs : List UInt8) (j : Nat) (h : j ≤ 7) : beNum 0 (xs.take j) * 256 + 256 ≤ 18446744073709551616 := by
  have h1 := beNum_lt 0 (xs.take j)
  have hl : (xs.take j).length ≤ j := List.length_take_le _ _
  have h2 : (256 : Nat) ^ (xs.take j).length ≤ 256 ^ 7 := Nat.pow_le_pow_right (by omega) (by omega)
  omega

theorem nextL_bits (a b p q : Nat) : IntKind.u64.wrap (IntKind.u64.wrap (IntKind.u64.wrap ((a : Int) + (p : Int)) + (b : Int)) + (q : Int)) = (((a + p + b + q) % 18446744073709551616 : Nat) : Int) := by
  simp only [IntKind.wrap_u64]
  omega
theorem s0L_any (x : Nat) (hx : x < 18446744073709551616) (w : World) (a : Nat) :
    Calls Tryd.prog 71 #[.int .u64 (x : Int), .int .i64 1, .int .i64 8, .int .i64 7] (w.drewN a) fun e w' => e = .returned (.int .u64 ((s0L x : Nat) : Int)) ∧ ∃ n, w' = w.drewN n :=
  (shifted_any x 1 8 7 _ hx (by omega) (by omega) (by omega) (by omega) (by omega)).mono fun e w' ⟨h1, n, h2⟩ => ⟨h1, _, h2.trans (World.drewN_drewN _ _ _)⟩
theorem s1L_any (x : Nat) (hx : x < 18446744073709551616) (w : World) (a : Nat) :
    Calls Tryd.prog 71 #[.int .u64 (x : Int), .int .i64 19, .int .i64 61, .int .i64 6] (w.drewN a) fun e w' => e = .returned (.int .u64 ((s1L x : Nat) : Int)) ∧ ∃ n, w' = w.drewN n :=
  (shifted_any x 19 61 6 _ hx (by omega) (by omega) (by omega) (by omega) (by omega)).mono fun e w' ⟨h1, n, h2⟩ => ⟨h1, _, h2.trans (World.drewN_drewN _ _ _)⟩

set_option maxRecDepth 100000 in
set_option maxHeartbeats 800000 in
theorem wordsL_any (b o : Nat) (m : List UInt8) (c : Nat) (w : World) (hm : m.length = 128) (hc : 128 ≤ c) (hc2 : c ≤ 9223372036854775807) (hb : b < w.heap.size) (hl : Lie w w.heap.size (some ⟨b, o, none⟩) (bvs m)) :
    Calls Tryd.prog 62 #[.slice (some ⟨b, o, none⟩) 128 c] w fun e w' => e = .returned (.agg (wcL m 80)) ∧ Below w.heap.size w w' := by
  have HL := hid hl
  have HM := hid hm
  have hz0 : ∀ W : World, (zeroValue 88).run Tryd.prog W = .ok (.agg (wcL m 0)) W := fun W => by
    rw [wcL_zero]
    exact (zero_of_info (P := Tryd.prog) (t := 88) (v := .agg (List.replicate 80 (Value.int .u64 0)).toArray) (n := 80) (by kernel_rfl)).1 W
  clear hl hm
  go_enter Tryd.func62, Tryd.ntmps62
  go_wp2
  clear hz0
  go_loopg [8] 16 (fun g i wr => ∃ k : Nat, k + g = 16 ∧ i = .int .i64 (k : Int) ∧ wr.heap[w.heap.size + 1]? = some (.cells (wcL m k) A80 (0, 0)) ∧ wr.heap[w.heap.size]? = some (.cells (wcL m 0) A80 (0, 0)) ∧ Below w.heap.size w wr)
  case atStart =>
    exact ⟨0, rfl, rfl, heap_alloc2_new w _ _, heap_alloc2_old w _ _, ((Below.refl _ _).alloc (Nat.le_refl _) _).alloc (by simp) _⟩
  case round =>
    obtain ⟨k, hk, rfl, hw1, hw0, hbel⟩ := hrel
    have HW1 := hid hw1; have HW0 := hid hw0; have HB := hid hbel
    have HK := hid hk
    have hkb : k ≤ 16 := by omega
    clear hw1 hw0 hbel hk
    obtain ⟨wo, rfl⟩ : ∃ wo : World, wo = wr := ⟨_, rfl⟩
    by_cases hlt : k < 16
    · have hx : (k : Int) < 16 := by omega
      have hk0 : (0 : Int) ≤ (k : Int) := by omega
      have hx80 : (k : Int) < 80 := by omega
      have e2 : (8 * (k : Int) + 8 - 8 * (k : Int)) = 8 := by omega
      have hcc : (8 * (k : Int) + 8) ≤ (c : Int) := by omega
      have hne : ¬ (8 * k = c) := by omega
      obtain ⟨ys, hys⟩ : ∃ ys, ys = (m.drop (8 * k)).take 8 := ⟨_, rfl⟩
      have hyl : ys.length = 8 := by rw [hys, List.length_take, List.length_drop, HM.out]; omega
      have HYS := hid hys
      have HYL := hid hyl
      clear hys hyl e2
      go_wp2
      have hz : ((0 : Nat) : Int) = 0 := rfl
      go_loopg [19] 8 (fun g i wr => ∃ j : Nat, j + g = 8 ∧ i = .int .i64 (j : Int) ∧ wr.heap[w.heap.size + 1]? = some (.cells (wcP m k (beNum 0 (ys.take j))) A80 (0, 0)) ∧ wr.heap[w.heap.size]? = some (.cells (wcL m 0) A80 (0, 0)) ∧ Below w.heap.size w wr)
      case atStart => exact ⟨0, rfl, rfl, by rw [List.take_zero]; exact (wcP_zero m k (by omega)).symm ▸ HW1.out, HW0.out, HB.out⟩
      case round =>
        clear hz
        obtain ⟨j, hj, rfl, hw1, hw0, hbel⟩ := hrel
        have HW2 := hid hw1; have HW02 := hid hw0; have HB2 := hid hbel
        have HJ := hid hj
        have hjb : j ≤ 8 := by omega
        clear hw1 hw0 hbel hj HW1 HW0 HB
        by_cases hj8 : j < 8
        · have hy : (j : Int) < 8 := by omega
          have hj0 : (0 : Int) ≤ (j : Int) := by omega
          have hB := HB2.out
          have hjl : j < ys.length := by rw [HYL.out]; exact hj8
          obtain ⟨x, hx8⟩ : ∃ x : UInt8, x = ys[j] := ⟨_, rfl⟩
          have hcx : wr.cell? ⟨b, o + 8 * k + j, none⟩ = some (.int .u8 (x.toNat : Int)) := by
            obtain ⟨b', o', h1, _, h2⟩ := (HL.out.below hB).byte (k := 8 * k + j) (by rw [HM.out]; omega)
            simp only [Option.some.injEq, Addr.mk.injEq] at h1
            obtain ⟨rfl, rfl, _⟩ := h1
            rw [Nat.add_assoc, h2, hx8]
            have e : m[8 * k + j]'(by rw [HM.out]; omega) = ys[j] := by
              have h3 := HYS.out
              subst h3
              simp
            rw [e]
          have hx0 := x.toNat_lt
          obtain ⟨T, hT⟩ : ∃ T, T = beNum 0 (ys.take j) := ⟨_, rfl⟩
          have hTl : T * 256 + 256 ≤ 18446744073709551616 := by rw [hT]; exact be_take_lt ys j (by omega)
          have hTn : beNum 0 (ys.take (j + 1)) = T * 256 + x.toNat := by rw [word_take ys j hjl, hT, hx8]
          rw [← hT] at HW2
          have hvk : wr.cell? ⟨w.heap.size + 1, k, none⟩ = some (.int .u64 (T : Int)) := cell_of HW2.out k _ (wcP_get m k T (by omega))
          have hfz : wr.frozen? ⟨w.heap.size + 1, k, none⟩ = false := frozen_of_row _ _ _ _ _ HW2.out
          have q1 := wrap_byte T hTl
          have q2 := or_byte T x.toNat hx0 hTl
          have Q := hid q2
          have HTN := hid hTn
          clear hB hx8 hT hTl hTn hjl q2
          go_wp2
          have hW := block_set HW2.out k (Value.int .u64 ((T * 256 + x.toNat : Nat) : Int))
          rw [wcP_set, ← HTN.out, HTN.out, ← Q.out] at hW
          rw [Q.out] at hW
          have hj := HJ.out
          go_roundg (8 - j - 1)
          case measure => omega
          case rel => exact ⟨j + 1, by omega, by go_num, by rw [HTN.out, Q.out]; exact hW, (heap_setCell_other _ _ _ _ (by simp)).trans HW02.out, HB2.out.setCell (by simp) _⟩
        · obtain rfl : j = 8 := by omega
          have hT : wcP m k (beNum 0 (ys.take 8)) = wcL m (k + 1) := by
            rw [wcP, wcL_set m k _ (by omega)]
            simp only [wordsToL, if_pos hlt, word8]
            rw [← HYS.out, List.take_of_length_le (by rw [HYL.out]; omega)]
          have HT := hid hT
          clear hT
          go_wp2
          have hk := HK.out
          go_roundg (16 - k - 1)
          case measure => omega
          case rel => exact ⟨k + 1, by omega, by go_num, by rw [← HT.out]; exact HW2.out, HW02.out, HB2.out⟩
    · obtain rfl : k = 16 := by have := HK.out; omega
      clear HK hkb hlt
      go_wp2
      go_loopg [7] 64 (fun g i wr => ∃ k : Nat, k + g = 80 ∧ 16 ≤ k ∧ i = .int .i64 (k : Int) ∧ wr.heap[w.heap.size + 1]? = some (.cells (wcL m k) A80 (0, 0)) ∧ wr.heap[w.heap.size]? = some (.cells (wcL m 0) A80 (0, 0)) ∧ Below w.heap.size w wr)
      case atStart => exact ⟨16, rfl, by omega, rfl, HW1.out, HW0.out, HB.out⟩
      case round =>
        clear HW1 HW0 HB
        obtain ⟨k, hk, hk16, rfl, hw1, hw0, hbel⟩ := hrel
        have HW1 := hid hw1; have HW0 := hid hw0; have HB := hid hbel
        have HK := hid hk
        have hkb : k ≤ 80 := by omega
        clear hw1 hw0 hbel hk
        by_cases hlt : k < 80
        · have hx80 : (k : Int) < 80 := by omega
          have hk0 : (0 : Int) ≤ (k : Int) := by omega
          have hold : ∀ j, 0 < j → j ≤ 16 → ∃ x : Nat, x = (wordsToL m k).getD (k - j) 0 ∧ x < 18446744073709551616 ∧ wr.cell? ⟨w.heap.size + 1, k - j, none⟩ = some (.int .u64 (x : Int)) := fun j h0 hj =>
            ⟨_, rfl, wordL_lt m k _ (by omega), cell_of HW1.out (k - j) _ (wcL_old m k _ (by omega))⟩
          obtain ⟨x, hex, hx, hcx⟩ := hold 15 (by omega) (by omega)
          obtain ⟨y, hey, hy, hcy⟩ := hold 2 (by omega) (by omega)
          obtain ⟨p, hep, hp, hcp⟩ := hold 7 (by omega) (by omega)
          obtain ⟨q, heq, hq, hcq⟩ := hold 16 (by omega) (by omega)
          have HX := hid hex; have HY := hid hey; have HP := hid hep; have HQ := hid heq
          have hvk : wr.cell? ⟨w.heap.size + 1, k, none⟩ = some (.int .u64 0) := cell_of HW1.out k _ (wcL_get m k (by omega))
          have hfz : wr.frozen? ⟨w.heap.size + 1, k, none⟩ = false := frozen_of_row _ _ _ _ _ HW1.out
          have q1 : IntKind.i64.wrap ((k : Int) - 7) = (k : Int) - 7 := IntWalk.i64_in _ (by omega)
          have q2 : (7 : Int) ≤ (k : Int) := by omega
          have q3 : (k : Int) - 7 < 80 := by omega
          have q4 : ((k : Int) - 7).toNat = k - 7 := by omega
          have q5 : IntKind.i64.wrap ((k : Int) - 16) = (k : Int) - 16 := IntWalk.i64_in _ (by omega)
          have q6 : (16 : Int) ≤ (k : Int) := by omega
          have q7 : (k : Int) - 16 < 80 := by omega
          have q8 : ((k : Int) - 16).toNat = k - 16 := by omega
          have q9 : IntKind.i64.wrap ((k : Int) - 2) = (k : Int) - 2 := IntWalk.i64_in _ (by omega)
          have q10 : (2 : Int) ≤ (k : Int) := by omega
          have q11 : (k : Int) - 2 < 80 := by omega
          have q12 : ((k : Int) - 2).toNat = k - 2 := by omega
          have q13 : IntKind.i64.wrap ((k : Int) - 15) = (k : Int) - 15 := IntWalk.i64_in _ (by omega)
          have q14 : (15 : Int) ≤ (k : Int) := by omega
          have q15 : (k : Int) - 15 < 80 := by omega
          have q16 : ((k : Int) - 15).toNat = k - 15 := by omega
          clear hold hex hey hep heq
          go_wp2
          have HC0 := hid (s0L_any x hx)
          have HC1 := hid (s1L_any y hy)
          refine wp_region_quiet_tail 22 (by kernel_rfl) (by kernel_rfl) ?_
          simp only [List.take_succ_cons, List.take_zero, List.drop_succ_cons, List.drop_zero]
          repeat (quiet_step ((go_at_call 71; first | with_reducible exact HC1.out _ _ | with_reducible exact HC0.out _ _)))
          refine wpQuiet_nil ?_
          intro _ hw'
          obtain ⟨nq, hw''⟩ := hw'
          subst hw''
          clear q1 q2 q3 q4 q5 q6 q7 q8 q9 q10 q11 q12 q13 q14 q15 q16
          go_wp2
          have hnext : wordsToL m (k + 1) = wordsToL m k ++ [(s1L y + p + s0L x + q) % 18446744073709551616] := by
            have h16 : ¬ k < 16 := by omega
            rw [HX.out, HY.out, HP.out, HQ.out]
            simp only [wordsToL, if_neg h16]
          have hW := block_set (w := wr.drewN nq) HW1.out k (Value.int .u64 (((s1L y + p + s0L x + q) % 18446744073709551616 : Nat) : Int))
          rw [wcL_set m k _ hlt hnext] at hW
          have hk := HK.out
          go_roundg (80 - k - 1)
          case measure => omega
          case rel => exact ⟨k + 1, by omega, by omega, by go_num, by rw [nextL_bits]; exact hW, (heap_setCell_other (wr.drewN nq) _ _ _ (by simp)).trans HW0.out, (below_drewN HB.out nq).setCell (by simp) _⟩
        · obtain rfl : k = 80 := by omega
          have hs := wcL_size m 80 (by omega)
          have hs0 := wcL_size m 0 (by omega)
          have HI : Hid ((Tryd.prog.info? 88).map (·.size) = some (wcL m 80).size) := hid (info80.trans (congrArg some hs.symm))
          have HS : Hid ((wcL m 0).size = (wcL m 80).size) := hid (hs0.trans hs.symm)
          have HO := hid (wcL_one m 80)
          clear hs hs0
          go_wp2_with (first
            | (with_reducible refine wpList_load_row rfl 88 (.tmp 3) rfl (w.heap.size + 1) rfl A80 (wcL m 80) (0, 0) _ HW1.out Tryd.underlying88 rfl HI.out ?_)
            | (with_reducible refine wpList_store_row rfl 88 (.tmp 2) _ rfl w.heap.size (wcL m 80) rfl rfl A80 (wcL m 0) HW0.out HI.out HS.out HO.out ?_))
          refine bodyPost_ret (v := .agg (wcL m 80)) (results_cell_row rfl _ _ w.heap.size A80 (wcL m 80) (0, 0) _ rfl (setRow_heap _ _ _ _ _ _ HW0.out) Tryd.underlying88 rfl HI.out) rfl ⟨rfl, ?_⟩
          exact below_setRow HB.out (Nat.le_refl _) _
end Go.Proofs.YtokggppfobbblaaDoor
