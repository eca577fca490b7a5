/-
  The laws of layer 11: any block.
-/
import Derived.Test.YtfjcedfjfadfpaaLaw11a
import Derived.Test.YtfjcedfjfadfpaaRef11m
import Derived.Test.YtfjcedfjfadfpaaSame
namespace Go.Proofs.Ytfjcedfjfadfpaa
open Go.RowKit
set_option linter.unusedVariables false
set_option linter.unusedSimpArgs false

theorem exL_at {ky : Nat → Nat} (hk : ∀ i, ky i < 256) : ∀ (n i : Nat), i < 16 * n → bf (exL ky n) i = kW ky (i / 16) (i % 16)
  | n + 1, i, h => by
    unfold bf
    rw [exL, List.getD_eq_getElem?_getD]
    by_cases h1 : i < 16 * n
    · rw [List.getElem?_append_left (by rw [exL_length]; exact h1), ← List.getD_eq_getElem?_getD]
      exact exL_at hk n i h1
    · rw [List.getElem?_append_right (by rw [exL_length]; omega), exL_length, List.getElem?_eq_getElem (by rw [blkL_length]; omega), Option.getD_some, blkL_at _ _ (by omega)]
      have e := ofNat_b (kW_lt hk n (i - 16 * n))
      rw [show i / 16 = n by omega, show i % 16 = i - 16 * n by omega]
      omega
theorem exL_word {ky : Nat → Nat} (hk : ∀ i, ky i < 256) (i : Nat) (h : i < 176) : bf (exL ky 11) i = dwW ky (i / 4) (i % 4) := by
  rw [exL_at hk 11 i (by omega), kW_dw _ _ _ (by omega), show 4 * (i / 16) + i % 16 / 4 = i / 4 by omega, show i % 16 % 4 = i % 4 by omega]
set_option maxRecDepth 100000 in
set_option maxHeartbeats 4000000 in
theorem blocks11_any (A : Option Addr) (key : List UInt8) (c : Nat) (A' : Option Addr) (blk : List UInt8) (c' : Nat) (w : World) (hS : Sq w w.heap.size A c (bvs key)) (hS' : Sq w w.heap.size A' c' (bvs blk)) :
    Calls Try.prog 4 #[.slice A key.length c, .slice A' blk.length c'] w fun e w' => e = .returned (.bool true) ∧ Below w.heap.size w w' := by
  have KA := hid (alive11_any w)
  have HS := hid hS; have HS' := hid hS'
  have hnb : ∀ (W : World) (p q : Bool), (binOp .neq 4 (.bool p) (.bool q)).run Try.prog W = .ok (.bool (!(p == q))) W := fun W p q => run_neq_bool W 4 p q Try.underlying4
  clear hS hS'
  have KB : Hid (∀ W, Below w.heap.size w W → Calls Try.prog 11 #[.slice A key.length c, .slice A' blk.length c'] W fun e w' => if key.length = 16 ∧ blk.length = 16 then (∃ v, e = .returned (.tuple #[v, .bool true]) ∧ OwnB w' W.heap.size v (blkL (sealN (bf key) (bf blk))) ∧ Below W.heap.size W w') else e = .returned (.tuple #[.slice none 0 0, .bool false]) ∧ Below W.heap.size W w') :=
    hid fun W hb => Block_any A A' key blk key.length blk.length c c' W ((HS.out.below hb).more hb.size) ((HS'.out.below hb).more hb.size) rfl rfl
  have KE : Hid (∀ W, Below w.heap.size w W → Calls Try.prog 12 #[.slice A key.length c] W fun e w' => if key.length = 16 then (∃ v, e = .returned (.tuple #[v, .bool true]) ∧ OwnB w' W.heap.size v (exL (bf key) 11) ∧ Below W.heap.size W w') else e = .returned (.tuple #[.slice none 0 0, .bool false]) ∧ Below W.heap.size W w') :=
    hid fun W hb => Expand_any A key key.length c W ((HS.out.below hb).more hb.size) rfl
  go_enter Try.func4, Try.ntmps4
  go_wp2_with fail
  refine KA.out.mono ?_
  rintro e w1 ⟨rfl, hb1⟩
  have HB1 := hid hb1
  clear hb1 KA
  by_cases hl1 : 60 < key.length
  · have hi : (60 : Int) < (key.length : Int) := by omega
    have hd : decide ((60 : Int) < (key.length : Int)) = true := by simpa using hi
    go_wp2
    go_ret
    exact ⟨rfl, HB1.out⟩
  have hi1 : ¬ (60 : Int) < (key.length : Int) := by omega
  have hd1 : decide ((60 : Int) < (key.length : Int)) = false := by simpa using hi1
  by_cases hl2 : 60 < blk.length
  · have hi : (60 : Int) < (blk.length : Int) := by omega
    have hd : decide ((60 : Int) < (blk.length : Int)) = true := by simpa using hi
    go_wp2
    go_ret
    exact ⟨rfl, HB1.out⟩
  have hi2 : ¬ (60 : Int) < (blk.length : Int) := by omega
  have hd2 : decide ((60 : Int) < (blk.length : Int)) = false := by simpa using hi2
  by_cases hk : key.length = 16
  · have hke : ((key.length : Int) == 16) = true := by rw [hk]; rfl
    have hki : (key.length : Int) = 16 := by omega
    by_cases hb : blk.length = 16
    · have hbe : ((blk.length : Int) == 16) = true := by rw [hb]; rfl
      have HK := hid hk; have HBL := hid hb
      clear hk hb hki
      go_wp2_with fail
      refine (KB.out _ HB1.out).mono ?_
      rintro e w2 h
      rw [if_pos ⟨HK.out, HBL.out⟩] at h
      obtain ⟨v2, rfl, ho2, hb2⟩ := h
      obtain ⟨A2, c2, rfl, hS2⟩ := own_sl ho2
      rw [blkL_length]
      have HB2 : Hid (Below w.heap.size w w2) := hid (HB1.out.trans (hb2.mono HB1.out.size))
      have HL2 : Hid (Lie w2 w2.heap.size A2 (bvs (blkL (sealN (bf key) (bf blk))))) := hid hS2.lie
      clear ho2 hS2 hb2
      go_wp2_with fail
      refine (KE.out _ HB2.out).mono ?_
      rintro e w3 h
      rw [if_pos HK.out] at h
      obtain ⟨v3, rfl, ho3, hb3⟩ := h
      obtain ⟨A3, c3, rfl, hS3⟩ := own_sl ho3
      rw [exL_length, show 16 * 11 = 176 from rfl]
      have HB3 : Hid (Below w.heap.size w w3) := hid (HB2.out.trans (hb3.mono HB2.out.size))
      have HL2' : Hid (Lie w3 w3.heap.size A2 (bvs (blkL (sealN (bf key) (bf blk))))) := hid ((HL2.out.below hb3).more hb3.size)
      have HL3 : Hid (Lie w3 w3.heap.size A3 (bvs (exL (bf key) 11))) := hid hS3.lie
      clear ho3 hS3 hb3 HL2
      go_wp2_with fail
      refine (Boxes11_any w3).mono ?_
      rintro e w4 ⟨Ab, cb, rfl, hI, hb4⟩
      have HB4 : Hid (Below w.heap.size w w4) := hid (HB3.out.trans (hb4.mono HB3.out.size))
      have HI := hid hI
      have HL2 : Hid (Lie w4 w4.heap.size A2 (bvs (blkL (sealN (bf key) (bf blk))))) := hid ((HL2'.out.below hb4).more hb4.size)
      have HL3' : Hid (Lie w4 w4.heap.size A3 (bvs (exL (bf key) 11))) := hid ((HL3.out.below hb4).more hb4.size)
      have KW := hid (Words11_any A Ab key.length 256 c cb key w4 ((HS.out.below HB4.out).more HB4.out.size) HK.out HK.out rfl hI)
      clear hI hb4 HL2' HL3 KB KE
      go_wp2_with fail
      refine KW.out.mono ?_
      rintro e w5 ⟨Aw, cw, rfl, hW, hb5⟩
      have HB5 : Hid (Below w.heap.size w w5) := hid (HB4.out.trans (hb5.mono HB4.out.size))
      have HI5 := hid ((HI.out.below hb5).more hb5.size)
      have HL2' : Hid (Lie w5 w5.heap.size A2 (bvs (blkL (sealN (bf key) (bf blk))))) := hid ((HL2.out.below hb5).more hb5.size)
      have HL3 : Hid (Lie w5 w5.heap.size A3 (bvs (exL (bf key) 11))) := hid ((HL3'.out.below hb5).more hb5.size)
      have HW := hid hW
      clear hW hb5 HL2 HL3' KW HI
      go_wp2
      go_loopg [11] 176 (fun g ii wr => ∃ k n : Nat, k + g = 176 ∧ ii = .int .i64 (k : Int) ∧ wr = w5.drewN n)
      case atStart => exact ⟨0, 0, rfl, rfl, rfl⟩
      case round =>
        obtain ⟨k, n, hk, rfl, rfl⟩ := hrel
        have HKK := hid hk
        have hk176 : k ≤ 176 := by omega
        clear hk
        by_cases hlt : k < 176
        · have hx : (k : Int) < 176 := by omega
          have hk0 : (0 : Int) ≤ (k : Int) := by omega
          obtain ⟨gb, ob, rfl, hgb, hcell⟩ := HL3.out.byte (k := k) (by rw [exL_length]; omega)
          have hyb := bf_at (exL (bf key) 11) k (by rw [exL_length]; omega)
          rw [exL_word (bf_lt key) k hlt] at hyb
          obtain ⟨q, hq⟩ : ∃ q, q = k / 4 := ⟨_, rfl⟩
          obtain ⟨r, hr⟩ : ∃ r, r = k % 4 := ⟨_, rfl⟩
          rw [← hq, ← hr] at hyb
          obtain ⟨y, hy⟩ : ∃ y, y = dwW (bf key) q r := ⟨_, rfl⟩
          rw [← hyb, ← hy] at hcell
          have hyl : y < 256 := by rw [hy]; exact dwW_lt (bf_lt key) _ _
          have hyw : IntKind.i64.wrap (y : Int) = (y : Int) := IntWalk.i64_in _ (by omega)
          obtain ⟨hq1, hq2, hqw⟩ : ((k : Int)).tdiv 4 = (q : Int) ∧ (k : Int) / 4 = (q : Int) ∧ IntKind.i64.wrap (q : Int) = (q : Int) := ⟨by rw [Int.tdiv_eq_ediv_of_nonneg (by omega)]; omega, by omega, IntWalk.i64_in _ (by omega)⟩
          obtain ⟨hr1, hr2, hrw⟩ : ((k : Int)).tmod 4 = (r : Int) ∧ (k : Int) % 4 = (r : Int) ∧ IntKind.i64.wrap (r : Int) = (r : Int) := ⟨by rw [Int.tmod_eq_emod_of_nonneg (by omega)]; omega, by omega, IntWalk.i64_in _ (by omega)⟩
          have hq44 : (q : Int) < 44 := by omega
          have hq0 : (0 : Int) ≤ (q : Int) := by omega
          have hr4 : (r : Int) < 4 := by omega
          have hr0 : (0 : Int) ≤ (r : Int) := by omega
          obtain ⟨b1, A1, c1, rfl, hcw, hcw2, hb1, hc1, ⟨g1, rfl, hg1, hd1⟩, hcap1⟩ := HW.out q (by omega)
          have hdr := hd1 r (by omega)
          rw [← hy] at hdr
          have hwi : IntKind.i64.wrap ((k : Int) + 1) = ((k + 1 : Nat) : Int) := (IntWalk.i64_in _ (by omega)).trans (by omega)
          clear hyb hy hyl hq hr hd1 hcap1 hg1 hb1 hgb
          go_wp2
          go_quiet (fail)
          go_wp2
          have hk := HKK.out
          go_roundg (176 - k - 1)
          case measure => omega
          case rel => exact ⟨k + 1, _, by omega, rfl, rfl⟩
        · have hke : k = 176 := by omega
          have hx : ¬ (k : Int) < 176 := by omega
          have HBn : Hid (Below w.heap.size w (w5.drewN n)) := hid ⟨HB5.out.os, HB5.out.tape, HB5.out.output, HB5.out.size, HB5.out.block⟩
          have HIn : Hid (Ints (w5.drewN n) (w5.drewN n).heap.size Ab cb boxN 256) := hid (HI5.out.below (w' := w5.drewN n) ⟨rfl, rfl, rfl, Nat.le_refl _, fun _ _ => rfl⟩)
          have HLn : Hid (Lie (w5.drewN n) (w5.drewN n).heap.size A2 (bvs (blkL (sealN (bf key) (bf blk))))) := hid HL2'.out
          clear hke
          generalize w5.drewN n = w6 at *
          have KD := hid (Block11_any A A' Ab key blk key.length blk.length 256 c c' cb w6 ((HS.out.below HBn.out).more HBn.out.size) ((HS'.out.below HBn.out).more HBn.out.size) HK.out HBL.out HK.out HBL.out rfl HIn.out)
          go_wp2_with fail
          refine KD.out.mono ?_
          rintro e w7 ⟨v7, rfl, ho7, hb7⟩
          obtain ⟨A7, c7, rfl, hS7⟩ := own_sl ho7
          rw [blkL_length]
          have KS : Hid (Calls Try.prog 15 #[.slice A2 (16 : Nat) c2, .slice A7 (16 : Nat) c7] w7 fun e w' => e = .returned (.bool true) ∧ ∃ n, w' = w7.drewN n) := hid (by
            have h := Same_any A2 (blkL (sealN (bf key) (bf blk))) c2 A7 (blkL (sealN (bf key) (bf blk))) c7 w7 _ _ (HLn.out.below hb7) hS7.lie (by rw [blkL_length]; omega)
            rw [beq_self_eq_true, blkL_length] at h
            exact h)
          have HB7 : Hid (Below w.heap.size w w7) := hid (HBn.out.trans (hb7.mono HBn.out.size))
          clear ho7 hS7 hb7 KD
          go_wp2_with fail
          refine KS.out.mono ?_
          rintro e w8 ⟨rfl, n8, rfl⟩
          go_wp2
          go_ret
          exact ⟨rfl, ⟨HB7.out.os, HB7.out.tape, HB7.out.output, HB7.out.size, HB7.out.block⟩⟩
    · have hbe : ((blk.length : Int) == 16) = false := by rw [beq_eq_false_iff_ne]; omega
      have HK := hid hk; have HBL := hid hb
      clear hk hb hki
      go_wp2_with fail
      refine (KB.out _ HB1.out).mono ?_
      rintro e w2 h
      rw [if_neg (fun hc => HBL.out hc.2)] at h
      obtain ⟨rfl, hb2⟩ := h
      have HB2 : Hid (Below w.heap.size w w2) := hid (HB1.out.trans (hb2.mono HB1.out.size))
      clear hb2
      go_wp2_with fail
      refine (KE.out _ HB2.out).mono ?_
      rintro e w3 h
      rw [if_pos HK.out] at h
      obtain ⟨v3, rfl, ho3, hb3⟩ := h
      have HB3 : Hid (Below w.heap.size w w3) := hid (HB2.out.trans (hb3.mono HB2.out.size))
      clear ho3 hb3
      go_wp2
      go_ret
      exact ⟨rfl, HB3.out⟩
  · have hke : ((key.length : Int) == 16) = false := by rw [beq_eq_false_iff_ne]; omega
    have HK := hid hk
    clear hk
    go_wp2_with fail
    refine (KB.out _ HB1.out).mono ?_
    rintro e w2 h
    rw [if_neg (fun hc => HK.out hc.1)] at h
    obtain ⟨rfl, hb2⟩ := h
    have HB2 : Hid (Below w.heap.size w w2) := hid (HB1.out.trans (hb2.mono HB1.out.size))
    clear hb2
    go_wp2_with fail
    refine (KE.out _ HB2.out).mono ?_
    rintro e w3 h
    rw [if_neg HK.out] at h
    obtain ⟨rfl, hb3⟩ := h
    have HB3 : Hid (Below w.heap.size w w3) := hid (HB2.out.trans (hb3.mono HB2.out.size))
    clear hb3
    go_wp2
    go_ret
    exact ⟨rfl, HB3.out⟩
end Go.Proofs.Ytfjcedfjfadfpaa
