/-
  Texts of this claim in one file: ScM.
-/
import Derived.Test.YtgehfbcagaaggaaGreatDoorPk40
section
namespace Go.Proofs.YtgehfbcagaaggaaGreatDoor
open Go.RowKit
set_option linter.unusedVariables false
set_option linter.unusedSimpArgs false
theorem own_below {w w' : World} {B n : Nat} {e : TypeId} {v : Value} {xs : List Value} (h : w.ownsRow B e 1 v n xs) (hb : Below w.heap.size w w') : w'.ownsRow B e 1 v n xs :=
  h.kept (row := none) ⟨hb.os, hb.tape, hb.output, hb.size, fun k hk _ => hb.block k hk⟩ (by cases hv : v.ownBlock <;> simp)
theorem index_runW (cs : Array Value) (k : Nat) (v : Value) (hk : k < 4) (hv : cs[k]? = some v) (W : World) : (Instr.index 102 (.agg cs) (.int .i64 (k : Int))).run Tryz.prog W = .ok v W := by
  have hu := run_underlying (P := Tryz.prog) Tryz.underlying102 W
  have hu2 := run_underlying (P := Tryz.prog) Tryz.underlying59 W
  have h8 : (k : Int) < 4 := by omega
  have hI : (Tryz.prog.info? 59).map (·.size) = some 1 := by kernel_rfl
  cases hq : Tryz.prog.info? 59 with
  | none => simp [hq] at hI
  | some i =>
    have hs : i.size = 1 := by simpa [hq] using hI
    simp [Instr.index, asIntOf, hu, part, isAgg, hu2, sizeOf, typeInfo, hq, hs, h8, hv]
    intro h; omega
set_option maxHeartbeats 1000000 in
theorem Bytes_s (x : Nat) (w : World) (hx : x < 115792089237316195423570985008687907853269984665640564039457584007913129639936) :
    Calls Tryz.prog 47 #[.agg (sA x)] w fun e w' => ∃ v, e = .returned v ∧ OwnB w' w.heap.size v (leB 32 x) ∧ Below w.heap.size w w' := by
  obtain ⟨i0, hi, hz0, hz1, hz2⟩ := info_parts infoU8
  have KW : Hid (∀ W, Calls Tryz.prog 74 #[.agg (sA x)] W fun e w' => e = .returned (.agg (sA x)) ∧ Below W.heap.size W w') := hid fun W => words_s x W hx
  obtain ⟨p0, p1, p2, p3, b0, b1, b2, b3, hxv, ex⟩ := words x hx
  have HIX := hid (fun (k : Nat) (hk : k < 4) (W : World) => index_runW (eA x) k _ hk (eA_get x k hk) W)
  unfold sA at *
  rw [ex] at HIX KW ⊢
  clear hx hxv ex b0 b1 b2 b3
  go_enter Tryz.func47, Tryz.ntmps47
  go_wp2_with (at_make; refine wpList_make_own _ rfl _ _ 22 rfl w.heap.size 5 i0 (.int .u8 0) 1 Tryz.underlying22 hi hz0 hz1 _ _ _ 32 rfl rfl ?c1 ?c2 ?c3 ?c4 ?_)
  case c1 => omega
  case c2 => rw [hz2]; omega
  case c3 => unfold maxLen; omega
  case c4 => simp
  intro w1 hown hg
  have h0 : w1.heap[w.heap.size]? = some (.cells (e4 p0 p1 p2 p3) ST (0, 0)) := block_grown (blkN rfl (e4 p0 p1 p2 p3) ST) hg (by simp)
  have hb1 : Below w.heap.size w w1 := ((Below.refl _ _).alloc (Nat.le_refl _) _).grown hg (by simp) (fun _ h => by cases h)
  have c0 : w1.cell? ⟨w.heap.size, 0, none⟩ = some (.int .u64 (p0 : Int)) := cell_of h0 0 _ rfl
  have c1 : w1.cell? ⟨w.heap.size, 1, none⟩ = some (.int .u64 (p1 : Int)) := cell_of h0 1 _ rfl
  have c2 : w1.cell? ⟨w.heap.size, 2, none⟩ = some (.int .u64 (p2 : Int)) := cell_of h0 2 _ rfl
  have c3 : w1.cell? ⟨w.heap.size, 3, none⟩ = some (.int .u64 (p3 : Int)) := cell_of h0 3 _ rfl
  have HO := hid hown; have HB := hid hb1
  clear hown hg h0 hb1 hi hz0 hz1 hz2
  go_wp2_with fail
  refine (KW.out _).mono ?_
  rintro e w2 ⟨rfl, hb⟩
  have HO2 : Hid (OwnB w2 w.heap.size (.slice (some ⟨w.heap.size + 1, 0, none⟩) 0 32) []) := hid (own_below HO.out hb)
  have HB2 : Hid (Below w.heap.size w w2) := hid (HB.out.trans (hb.mono HB.out.size))
  clear HO HB hb c0 c1 c2 c3
  have HO := HO2; have HB := HB2
  clear HO2 HB2
  go_wp2_with fail
  go_loopg [3, 10] 4 (fun g v i wr => ∃ k : Nat, k + g = 4 ∧ i = .int .i64 (k : Int) ∧ OwnB wr w.heap.size v (leB (8 * k) x) ∧ Below w.heap.size w wr)
  case atStart => exact ⟨0, by omega, rfl, HO.out, HB.out⟩
  case round =>
    clear HO HB
    obtain ⟨k, hk, rfl, ho, hb⟩ := hrel
    have HK := hid hk; have HO := hid ho; have HB := hid hb
    have hk4 : k ≤ 4 := by omega
    clear hk ho hb
    by_cases hlt : k < 4
    · have hx : (k : Int) < 4 := by omega
      have hix := HIX.out k hlt
      obtain ⟨q, hq⟩ : ∃ q, q = x / 18446744073709551616 ^ k % 18446744073709551616 := ⟨_, rfl⟩
      rw [← hq] at hix
      have HQ := hid hq
      clear hq
      go_wp2
      clear hix
      go_loopg [3, 6] 8 (fun g v i wr => ∃ j : Nat, j + g = 8 ∧ i = .int .i64 ((8 * j : Nat) : Int) ∧ OwnB wr w.heap.size v (leB (8 * k + j) x) ∧ Below w.heap.size w wr)
      case atStart => exact ⟨0, by omega, rfl, HO.out, HB.out⟩
      case round =>
        clear HO HB
        obtain ⟨j, hj, rfl, ho, hb⟩ := hrel
        have HJ := hid hj; have HB := hid hb
        have hj8 : j ≤ 8 := by omega
        clear hj hb
        by_cases hlt2 : j < 8
        · have hxj : ((8 * j : Nat) : Int) < 64 := by omega
          have hj0 : (0 : Int) ≤ ((8 * j : Nat) : Int) := by omega
          have hsz := HB.out.size
          obtain ⟨s, hs⟩ : ∃ s, s = 8 * j := ⟨_, rfl⟩
          rw [← hs] at hxj hj0 ⊢
          have HS := hid hs
          clear hs
          go_wp2_with (at_builtin; refine wpList_append_lie rfl (.tmp 17) (.tmp 22) 22 rfl w.heap.size 5 (.int .u8 0) 1 Tryz.underlying22 infoU8 rfl rfl (World.ownsRow.alloc ho _) rfl rfl (Lie.new1 _ _ _) ?d0 ?d1 ?d2 ?d3 ?_)
          case d0 => intro u hu; simp at hu; subst hu; rfl
          case d1 => rw [List.length_singleton]; unfold maxLen; simp; omega
          case d2 => rw [List.length_singleton]; simp; omega
          case d3 => simp; omega
          intro v2 w2 hown2 hg2 _
          have hO : OwnB w2 w.heap.size v2 (leB (8 * k + (j + 1)) x) := by
            rw [show 8 * k + (j + 1) = 8 * k + j + 1 by omega, leB_snoc]
            refine own_snoc hown2 (by simp) ?_
            rw [HS.out, shr_val, HQ.out, word_byte x k j hlt2]
          have hB2 : Below w.heap.size w w2 := (HB.out.alloc hsz _).grown hg2 (by simp; omega) (fun q h => own_lt (World.ownsRow.alloc ho (.cells #[.int .u8 ((q : Int) / 2 ^ s % 256)] 5)) q h)
          have HO2 := hid hO; have HB2 := hid hB2
          clear hown2 hg2 hO hB2 ho HB
          go_wp2
          have hj := HJ.out
          have hs := HS.out
          go_roundg (8 - j - 1)
          case measure => omega
          case rel => exact ⟨j + 1, by omega, by rw [hs]; go_num, HO2.out, HB2.out⟩
        · obtain rfl : j = 8 := by omega
          have HO2 := hid ho
          clear ho
          go_wp2
          have hk := HK.out
          go_roundg (4 - k - 1)
          case measure => omega
          case rel => exact ⟨k + 1, by omega, by go_num, HO2.out, HB.out⟩
    · obtain rfl : k = 4 := by omega
      go_wp2
      go_ret
      exact ⟨_, rfl, HO.out, HB.out⟩
end Go.Proofs.YtgehfbcagaaggaaGreatDoor
end
