/-
  The statement WireLens: the walk.
-/
import Derived.Test.YtkdpaaaleicopaaLaw01a
import Derived.Test.YtkdpaaaleicopaaRef01
namespace Go.Proofs.Ytkdpaaaleicopaa
open Go.RowKit
set_option linter.unusedVariables false
set_option linter.unusedSimpArgs false

/-- PutLen of what can't be a length: the bytes ahead alone. -/
theorem PutLen_bad (A : Option Addr) (xs : List UInt8) (c : Nat) (n : Int) (w : World) (hn : n < 0 ∨ 1073741824 ≤ n) (hA : Lie w w.heap.size A (bvs xs)) (hb : xs.length ≤ 140737488355328) :
    Calls Try.prog 11 #[.slice A xs.length c, .int .i64 n] w fun e w' => ∃ v, e = .returned v ∧ OwnB w' w.heap.size v xs ∧ Below w.heap.size w w' := by
  have HZ : Hid (lenSz n = 0) := hid (by unfold lenSz; rw [if_pos hn])
  clear hn
  go_enter Try.func11, Try.ntmps11
  go_wp2_with fail
  refine (LenSize_any _ _).mono ?_
  rintro e w' ⟨rfl, rfl⟩
  rw [HZ.out]
  go_wp2_with fail
  refine (clone_any A xs c _ _ hA hb).mono ?_
  rintro e w1 ⟨v1, rfl, ho, hg⟩
  go_wp2
  go_ret
  exact ⟨v1, rfl, ho, below_of_grown hg (Nat.le_refl _) (fun _ h => by cases h)⟩

theorem long2 (n : Nat) (h : n < 64) : vecAt [64, UInt8.ofNat n] = ([], [64, UInt8.ofNat n], 3) := by
  have hy : (UInt8.ofNat n).toNat = n := by simp [UInt8.toNat_ofNat']; omega
  have hl : lenAt [64, UInt8.ofNat n] = (0, 0, 3) := by
    have hb : beNum (64 % 64) [UInt8.ofNat n] = n := by simp only [beNum, List.foldl_cons, List.foldl_nil, hy]; omega
    have hz : ¬ lenSize n = 2 := by unfold lenSize; rw [if_pos h]; omega
    have h64 : (64 : UInt8).toNat = 64 := rfl
    simp only [lenAt, h64]
    rw [if_neg (by omega), if_neg (by omega), if_pos (by omega), if_neg (by simp), show [UInt8.ofNat n].take 1 = [UInt8.ofNat n] from rfl, hb, if_neg hz]
  unfold vecAt
  rw [hl]
  simp
theorem long4 (n : Nat) (h1 : ¬ n < 64) (h : n < 16384) : vecAt [128, 0, UInt8.ofNat (n / 256), UInt8.ofNat n] = ([], [128, 0, UInt8.ofNat (n / 256), UInt8.ofNat n], 3) := by
  have hy : (UInt8.ofNat n).toNat = n % 256 := by simp [UInt8.toNat_ofNat']
  have hy2 : (UInt8.ofNat (n / 256)).toNat = n / 256 := by simp [UInt8.toNat_ofNat']; omega
  have hl : lenAt [128, 0, UInt8.ofNat (n / 256), UInt8.ofNat n] = (0, 0, 3) := by
    have h0 : (0 : UInt8).toNat = 0 := rfl
    have hb : beNum (128 % 64) [0, UInt8.ofNat (n / 256), UInt8.ofNat n] = n := by simp only [beNum, List.foldl_cons, List.foldl_nil, hy, hy2, h0]; omega
    have hz : ¬ lenSize n = 4 := by unfold lenSize; rw [if_neg h1, if_pos h]; omega
    have h128 : (128 : UInt8).toNat = 128 := rfl
    simp only [lenAt, h128]
    rw [if_neg (by omega), if_neg (by omega), if_neg (by omega), if_neg (by simp), show [0, UInt8.ofNat (n / 256), UInt8.ofNat n].take 3 = [0, UInt8.ofNat (n / 256), UInt8.ofNat n] from rfl, hb, if_neg hz]
  unfold vecAt
  rw [hl]
  simp
theorem long_cells2 (n : Nat) (h : n < 64) : [Value.int .u8 (64 + (n : Int) / 256 % 64), .int .u8 ((n : Int) % 256)] = bvs [64, UInt8.ofNat n] := by
  simp only [bvs, List.map_cons, List.map_nil]
  rw [u8_cell 64 (64 + (n : Int) / 256 % 64) (by omega), u8_cell n ((n : Int) % 256) rfl]
  rfl
theorem long_cells4 (n : Nat) (h : n < 16384) : [Value.int .u8 128, .int .u8 0, .int .u8 ((n : Int) / 256), .int .u8 ((n : Int) % 256)] = bvs [128, 0, UInt8.ofNat (n / 256), UInt8.ofNat n] := by
  simp only [bvs, List.map_cons, List.map_nil]
  rw [u8_cell (n / 256) ((n : Int) / 256) (by omega), u8_cell n ((n : Int) % 256) rfl]
  rfl

theorem Same_m (A : Option Addr) (xs : List UInt8) (m c : Nat) (A' : Option Addr) (ys : List UInt8) (m' c' : Nat) (w : World) (B B' : Nat) (hx : xs.length = m) (hy : ys.length = m') (hA : Lie w B A (bvs xs)) (hA' : Lie w B' A' (bvs ys)) (hm : m ≤ 140737488355328) :
    Calls Try.prog 10 #[.slice A m c, .slice A' m' c'] w fun e w' => e = .returned (.bool (xs == ys)) ∧ ∃ n, w' = w.drewN n := by
  subst hx hy
  exact Same_any A xs c A' ys c' w B B' hA hA' hm

set_option maxRecDepth 100000 in
set_option maxHeartbeats 3200000 in
theorem lens_any (n : Int) (w : World) (h1 : -9223372036854775808 ≤ n) (h2 : n ≤ 9223372036854775807) :
    Calls Try.prog 4 #[.int .i64 n] w fun e w' => e = .returned (.bool true) ∧ Below w.heap.size w w' := by
  by_cases hbad : n < 0 ∨ 1073741824 ≤ n
  · have HB := hid hbad
    have HZ : Hid (lenSz n = 0) := hid (by unfold lenSz; rw [if_pos hbad])
    rcases hbad with hb | hb
    all_goals
      go_enter Try.func4, Try.ntmps4
      go_wp2_with fail
      refine (alive_any _).mono ?_
      rintro e w1 ⟨rfl, hb1⟩
      go_wp2_with fail
      have hL : Lie (w1.alloc (.cells #[.int .u8 9] 5)) (w1.alloc (.cells #[.int .u8 9] 5)).heap.size (some ⟨w1.heap.size, 0, none⟩) (bvs [9]) := (Lie.newA w1 #[.int .u8 9] 5).more (by simp)
      have hP := PutLen_bad (some ⟨w1.heap.size, 0, none⟩) [9] 1 n _ HB.out hL (by simp)
      refine hP.mono ?_
      rintro e w2 ⟨v2, rfl, ho2, hb2⟩
      obtain ⟨A3, c3, rfl, hS3⟩ := own_sl ho2
      have hbb : Below w.heap.size w w2 := (hb1.alloc hb1.size _).trans (hb2.mono (by have := hb1.size; simp; omega))
      have HBB := hid hbb
      clear hL hP ho2 hb2 hbb hS3 hb1
      go_wp2_with fail
      refine (LenSize_any _ _).mono ?_
      rintro e w' ⟨rfl, rfl⟩
      rw [HZ.out]
      go_wp2
      go_ret
      exact ⟨rfl, HBB.out⟩
  · obtain ⟨n, rfl⟩ : ∃ m : Nat, n = (m : Int) := ⟨n.toNat, by omega⟩
    have hn : n < 1073741824 := by omega
    have HZ := hid (lenSz_lenSize n hn)
    have hzz := lenSize_le n
    have hn0 : (0 : Int) ≤ (n : Int) := by omega
    clear hbad h1 h2
    go_enter Try.func4, Try.ntmps4
    go_wp2_with fail
    refine (alive_any _).mono ?_
    rintro e w1 ⟨rfl, hb1⟩
    go_wp2_with fail
    have hL : Lie (w1.alloc (.cells #[.int .u8 9] 5)) (w1.alloc (.cells #[.int .u8 9] 5)).heap.size (some ⟨w1.heap.size, 0, none⟩) (bvs [9]) := (Lie.newA w1 #[.int .u8 9] 5).more (by simp)
    have hP := PutLen_ok (some ⟨w1.heap.size, 0, none⟩) [9] 1 n _ hn hL (by simp)
    refine hP.mono ?_
    rintro e w2 ⟨v2, rfl, ho2, hb2⟩
    obtain ⟨A3, c3, rfl, hS3⟩ := own_sl ho2
    have hbb : Below w.heap.size w w2 := (hb1.alloc hb1.size _).trans (hb2.mono (by have := hb1.size; simp; omega))
    have hlen : ([9] ++ lenBytes n : List UInt8).length = 1 + lenSize n := by rw [List.length_append, lenBytes_length]; rfl
    rw [hlen]
    have hcap := hS3.cap
    rw [bvs_length, hlen] at hcap
    have hD : Lie w2 w2.heap.size A3 (bvs ([9] ++ lenBytes n)) := hS3.lie
    obtain ⟨b, o, rfl, hbl, _⟩ := hD.byte (k := 0) (by simp)
    have hT : Lie w2 w2.heap.size (some ⟨b, o + 1, none⟩) (bvs (lenBytes n)) := by
      have h := hD.drop 1
      simpa [bvs] using h
    have HBB := hid hbb
    have HT := hid hT
    have HLL := hid (lenBytes_length n)
    clear hL hP ho2 hb2 hbb hS3 hb1 hD hT hlen hbl
    obtain ⟨L, hLd⟩ : ∃ L, L = 1 + lenSize n := ⟨_, rfl⟩
    rw [← hLd] at hcap ⊢
    obtain ⟨hcap1, hcap2⟩ := hcap
    have hL1 : 1 ≤ L := by omega
    have hLi : (1 : Int) ≤ (L : Int) := by omega
    have hLc : (L : Int) ≤ (c3 : Int) := by omega
    have hLm : Hid ((lenBytes n).length = L - 1) := hid (by rw [HLL.out]; omega)
    have hL5 : L ≤ 5 := by omega
    have hLs : Hid ((lenSize n : Int) = (L : Int) - 1) := hid (by omega)
    have hc1 : ¬ c3 = 1 := by omega
    have hwr : IntKind.i64.wrap ((L : Int) - 1) = (L : Int) - 1 := IntWalk.i64_in _ (by omega)
    clear hLd hzz
    go_wp2
    go_region_held3 (fun w' => Below w2.heap.size w2 w') (first | (exact Below.drew (Below.refl _ _)) | assumption | (exact hB5))
      ((first
        | (go_at_call 13; refine (RefLen_any n _ hn).mono ?_; rintro e w4 ⟨v4, rfl, ho4, hg4⟩; obtain ⟨A4, c4, rfl, hS4⟩ := own_sl ho4; have hB4 := Below.grown (by assumption : Below w2.heap.size w2 _) hg4 (by have := (by assumption : Below w2.heap.size w2 _).size; omega) (fun _ h => by cases h))
        | (go_at_call 10; refine (Same_m _ (lenBytes n) _ _ _ (lenBytes n) _ _ _ w2.heap.size w4.heap.size hLm.out rfl (HT.out.below hB4) hS4.lie (by omega)).mono ?_; rintro e w5 ⟨rfl, q5, rfl⟩; rw [show (lenBytes n == lenBytes n) = true from beq_self_eq_true _]; have hB5 : Below w2.heap.size w2 (w4.drewN q5) := ⟨hB4.os, hB4.tape, hB4.output, hB4.size, hB4.block⟩)
        | (go_at_call 12; refine (LenSize_any _ _).mono ?_; rintro e w6 ⟨rfl, rfl⟩; rw [HZ.out, hLs.out])))
    have HB6 := hid (HBB.out.trans (hB5.mono HBB.out.size))
    clear hB5 hB4 hg4 hS4 ho4 hLi hLc hwr hc1 hcap1 hcap2
    generalize w4.drewN q5 = w5 at *
    by_cases hbig : 16384 ≤ n
    · go_wp2
      go_ret
      exact ⟨rfl, HB6.out.alloc HB6.out.size _⟩
    by_cases hsm : n < 64
    · have hC : Lie (w5.alloc (.cells #[.int .u8 (64 + (n : Int) / 256 % 64), .int .u8 ((n : Int) % 256)] 5)) (w5.heap.size + 1) (some ⟨w5.heap.size, 0, none⟩) (bvs [64, UInt8.ofNat n]) := by
        rw [← long_cells2 n hsm]; exact Lie.newA w5 _ _
      have hN := NewReader_any (some ⟨w5.heap.size, 0, none⟩) [64, UInt8.ofNat n] 2 _ _ hC (by simp)
      have HV2 := hid (long2 n hsm)
      have hbw : Below w.heap.size w (w5.alloc (.cells #[.int .u8 (64 + (n : Int) / 256 % 64), .int .u8 ((n : Int) % 256)] 5)) := HB6.out.alloc HB6.out.size _
      have HBW := hid hbw; have HN := hid hN
      clear hC hN hbw
      go_wp2_with fail
      refine HN.out.mono ?_
      rintro e w7 ⟨g, rfl, hg, hr, hg7⟩
      have hb7 := HBW.out.grown hg7 (by simp; have := HB6.out.size; omega) (fun _ h => by cases h)
      have hgz : w.heap.size ≤ g := by simp only [World.size_alloc] at hg; have := HB6.out.size; omega
      have HV := hid (Vec_any g [64, UInt8.ofNat n] w7 hr (by simp))
      have HB7 := hid hb7
      clear hr hg7 hb7 hg HN
      go_wp2_with fail
      refine HV.out.mono ?_
      rw [HV2.out]
      rintro e w8 ⟨v8, rfl, ho8, hr8, hg8⟩
      obtain ⟨A8, c8, rfl, _⟩ := own_sl ho8
      have HB8 := hid (HB7.out.grown hg8 HB7.out.size (fun k h => by injection h with h; omega))
      have HE := hid (Err_any g _ 3 w8 hr8)
      clear ho8 hr8 hg8
      go_wp2_with fail
      refine HE.out.mono ?_
      rintro e w9 ⟨rfl, rfl⟩
      go_wp2
      go_ret
      exact ⟨rfl, HB8.out⟩
    · have hC : Lie ((w5.alloc (.cells #[.int .u8 (64 + (n : Int) / 256 % 64), .int .u8 ((n : Int) % 256)] 5)).alloc (.cells #[.int .u8 128, .int .u8 0, .int .u8 ((n : Int) / 256), .int .u8 ((n : Int) % 256)] 5)) (w5.heap.size + 1 + 1) (some ⟨w5.heap.size + 1, 0, none⟩) (bvs [128, 0, UInt8.ofNat (n / 256), UInt8.ofNat n]) := by
        rw [← long_cells4 n (by omega)]
        have h := Lie.newA (w5.alloc (.cells #[.int .u8 (64 + (n : Int) / 256 % 64), .int .u8 ((n : Int) % 256)] 5)) #[.int .u8 128, .int .u8 0, .int .u8 ((n : Int) / 256), .int .u8 ((n : Int) % 256)] 5
        simp only [World.size_alloc] at h
        exact h
      have hN := NewReader_any (some ⟨w5.heap.size + 1, 0, none⟩) [128, 0, UInt8.ofNat (n / 256), UInt8.ofNat n] 4 _ _ hC (by simp)
      have HV2 := hid (long4 n hsm (by omega))
      have hbw : Below w.heap.size w ((w5.alloc (.cells #[.int .u8 (64 + (n : Int) / 256 % 64), .int .u8 ((n : Int) % 256)] 5)).alloc (.cells #[.int .u8 128, .int .u8 0, .int .u8 ((n : Int) / 256), .int .u8 ((n : Int) % 256)] 5)) := (HB6.out.alloc HB6.out.size _).alloc (by have := HB6.out.size; simp; omega) _
      have HBW := hid hbw; have HN := hid hN
      clear hC hN hbw
      go_wp2_with fail
      refine HN.out.mono ?_
      rintro e w7 ⟨g, rfl, hg, hr, hg7⟩
      have hb7 := HBW.out.grown hg7 (by simp; have := HB6.out.size; omega) (fun _ h => by cases h)
      have hgz : w.heap.size ≤ g := by simp only [World.size_alloc] at hg; have := HB6.out.size; omega
      have HV := hid (Vec_any g [128, 0, UInt8.ofNat (n / 256), UInt8.ofNat n] w7 hr (by simp))
      have HB7 := hid hb7
      clear hr hg7 hb7 hg HN
      go_wp2_with fail
      refine HV.out.mono ?_
      rw [HV2.out]
      rintro e w8 ⟨v8, rfl, ho8, hr8, hg8⟩
      obtain ⟨A8, c8, rfl, _⟩ := own_sl ho8
      have HB8 := hid (HB7.out.grown hg8 HB7.out.size (fun k h => by injection h with h; omega))
      have HE := hid (Err_any g _ 3 w8 hr8)
      clear ho8 hr8 hg8
      go_wp2_with fail
      refine HE.out.mono ?_
      rintro e w9 ⟨rfl, rfl⟩
      go_wp2
      go_ret
      exact ⟨rfl, HB8.out⟩
end Go.Proofs.Ytkdpaaaleicopaa
