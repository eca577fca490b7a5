/-
  The statements of layer 6: what they share.
-/
import Derived.Test.YtjchifaclfghaaaRef06g
import Derived.Test.YtjchifaclfghaaaFldB
import Derived.Test.YtjchifaclfghaaaSame
namespace Go.Proofs.Ytjchifaclfghaaa
open Go.RowKit
set_option linter.unusedVariables false
set_option linter.unusedSimpArgs false

/-- Number and number: the same bytes. -/
theorem Is_any (n : Nat) (A : Option Addr) (c : Nat) (w : World) (hS : Sq w w.heap.size A c (ivs (dg n))) (hn : n < pp) :
    Calls Try.prog 10 #[.agg (eA n), .slice A (dg n).length c] w fun e w' => e = .returned (.bool true) ∧ Below w.heap.size w w' := by
  have HS := hid hS
  have HBE := hid (fun W => Bytes_e n W (pp_lt hn))
  have HB6 : Hid (∀ W A c, Sq W W.heap.size A c (ivs (dg n)) → Calls Try.prog 32 #[.slice A (dg n).length c, .int .i64 32] W fun e w' => ∃ v, e = .returned v ∧ OwnB w' W.heap.size v (leB 32 n) ∧ Below W.heap.size W w') := hid fun W A c h =>
    Bytes6_any n 32 A c W h (Nat.lt_trans (Nat.lt_trans hn pp_dig) (by decide +kernel)) (by omega)
  obtain ⟨l, hl⟩ : ∃ l, l = leB 32 n := ⟨_, rfl⟩
  have hll : l.length = 32 := by rw [hl]; exact leB_length 32 n
  have HLL := hid hll
  clear hll
  rw [← hl] at HBE HB6
  have X1 := hid (blkN (w := w) rfl (eA n) ET)
  have HB0 := hid ((Below.refl w.heap.size w).alloc (Nat.le_refl _) (.cells (eA n) ET))
  have HS0 := hid (HS.out.on6 HB0.out)
  clear hS hn hl
  go_enter Try.func10, Try.ntmps10
  go_wp2_with (with_reducible refine wpList_load_row rfl ET (.tmp 2) rfl w.heap.size rfl ET (eA n) (0, 0) _ X1.out Try.underlying26 rfl (infoEA _) ?_)
  refine (HBE.out _).mono ?_
  rintro e w1 ⟨v1, rfl, ho1, hb1⟩
  obtain ⟨A1, c1, rfl, hS1⟩ := own_sl ho1
  have HL1 := hid hS1.lie; have HS01 := hid (HS0.out.on6 hb1); have HB1 := hid (HB0.out.trans (hb1.mono HB0.out.size))
  clear ho1 hS1 hb1 HS0 HB0 HS X1 HBE
  go_wp2_with fail
  refine (HB6.out _ _ _ HS01.out).mono ?_
  rintro e w2 ⟨v2, rfl, ho2, hb2⟩
  obtain ⟨A2, c2, rfl, hS2⟩ := own_sl ho2
  have HL2 := hid hS2.lie; have HL12 := hid (HL1.out.below hb2); have HB2 := hid (HB1.out.trans (hb2.mono HB1.out.size))
  clear ho2 hS2 hb2 HL1 HS01 HB1 HB6
  go_wp2_with fail
  refine (Same_any A1 l c1 A2 l c2 w2 _ _ HL12.out HL2.out (by rw [HLL.out]; omega)).mono ?_
  rw [beq_self_eq_true]
  rintro e w3 ⟨rfl, q, rfl⟩
  go_wp2
  go_ret
  exact ⟨rfl, belowB_drewN HB2.out q⟩

theorem alive_bytes : leB 32 ((2 + (pp - 3)) % pp) = expB 236 127 := by decide +kernel
set_option maxHeartbeats 1000000 in
theorem alive6_any (w : World) : Calls Try.prog 6 #[] w fun e w' => e = .returned (.bool true) ∧ Below w.heap.size w w' := by
  have N2 : Hid (∀ W, Calls Try.prog 11 #[.int .u64 2] W fun e w' => e = .returned (.agg (eA 2)) ∧ Below W.heap.size W w') := hid fun W => Num_e 2 W (by omega)
  have N3 : Hid (∀ W, Calls Try.prog 11 #[.int .u64 3] W fun e w' => e = .returned (.agg (eA 3)) ∧ Below W.heap.size W w') := hid fun W => Num_e 3 W (by omega)
  have hs := fun W => Sub_e 2 3 W (by decide +kernel) (by decide +kernel)
  have hb := fun W => Bytes_e ((2 + (pp - 3)) % pp) W (pp_lt (Nat.mod_lt _ pp_pos))
  rw [alive_bytes] at hb
  obtain ⟨d, hd⟩ : ∃ d, d = (2 + (pp - 3)) % pp := ⟨_, rfl⟩
  rw [← hd] at hs hb
  have HS := hid hs; have HBY := hid hb
  have hz := fun W => Zero_e 0 W pp_pos
  rw [eA_small 0 (by omega), decide_eq_true rfl] at hz
  have HZ : Hid (∀ W : World, Calls Try.prog 23 #[.agg z4] W fun e w' => e = .returned (.bool true) ∧ Below W.heap.size W w') := hid hz
  clear hs hb hd hz
  go_enter Try.func6, Try.ntmps6
  go_wp2_with fail
  refine (N2.out _).mono ?_
  rintro e w1 ⟨rfl, hb1⟩
  go_wp2_with fail
  refine (N3.out _).mono ?_
  rintro e w2 ⟨rfl, hb2⟩
  have HB2 := hid (hb1.trans (hb2.mono hb1.size))
  clear hb1 hb2 N2 N3
  go_wp2_with fail
  refine (HS.out _).mono ?_
  rintro e w3 ⟨rfl, hb3⟩
  have HB3 := hid (HB2.out.trans (hb3.mono HB2.out.size))
  clear hb3 HB2 HS
  go_wp2_with fail
  refine (HBY.out _).mono ?_
  rintro e w4 ⟨v4, rfl, ho, hb4⟩
  obtain ⟨g, cur, hv⟩ : ∃ (A : Option Addr) (c : Nat), v4 = .slice A 32 c ∧ Sl w4 w4.heap.size A c (bvs (expB 236 127)) := by
    obtain ⟨A, c, rfl, h⟩ := own_sl ho
    exact ⟨A, c, rfl, h⟩
  obtain ⟨rfl, hsl⟩ := hv
  have HB4 := hid (HB3.out.trans (hb4.mono HB3.out.size))
  obtain ⟨b, o, rfl, hbl⟩ := hsl.sq.form (by rw [bvs_length]; decide)
  have hlie := hsl.lie
  have h0 : w4.cell? ⟨b, o + 0, none⟩ = some (.int .u8 236) := by
    obtain ⟨b', o', hA, _, h⟩ := hlie.byte (k := 0) (by decide)
    simp only [Option.some.injEq, Addr.mk.injEq] at hA
    obtain ⟨rfl, rfl, _⟩ := hA
    exact h
  have h1 : w4.cell? ⟨b, o + 1, none⟩ = some (.int .u8 255) := by
    obtain ⟨b', o', hA, _, h⟩ := hlie.byte (k := 1) (by decide)
    simp only [Option.some.injEq, Addr.mk.injEq] at hA
    obtain ⟨rfl, rfl, _⟩ := hA
    exact h
  have h31 : w4.cell? ⟨b, o + 31, none⟩ = some (.int .u8 127) := by
    obtain ⟨b', o', hA, _, h⟩ := hlie.byte (k := 31) (by decide)
    simp only [Option.some.injEq, Addr.mk.injEq] at hA
    obtain ⟨rfl, rfl, _⟩ := hA
    exact h
  rw [Nat.add_zero] at h0
  clear ho hb4 hsl hlie HB3 HBY hbl
  go_wp2_with fail
  refine (HZ.out _).mono ?_
  rintro e w5 ⟨rfl, hb5⟩
  have HB5 := hid (HB4.out.trans (hb5.mono HB4.out.size))
  clear hb5
  go_wp2
  go_ret
  exact ⟨rfl, HB5.out⟩
end Go.Proofs.Ytjchifaclfghaaa
