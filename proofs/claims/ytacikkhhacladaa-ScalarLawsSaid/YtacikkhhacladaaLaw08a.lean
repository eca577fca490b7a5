/-
  The statements of layer 8: what they share.
-/
import Derived.Test.YtacikkhhacladaaScI
import Derived.Test.YtacikkhhacladaaScJ
import Derived.Test.YtacikkhhacladaaRef08
import Derived.Test.YtacikkhhacladaaGrw
import Derived.Test.YtacikkhhacladaaRef06s
import Derived.Test.YtacikkhhacladaaRef06p
import Derived.Test.YtacikkhhacladaaSame
namespace Go.Proofs.Ytacikkhhacladaa
open Go.RowKit
set_option linter.unusedVariables false
set_option linter.unusedSimpArgs false

theorem ordL_50 {n : Nat} (h : n < ordL) : n < 32768 ^ 50 := Nat.lt_trans (Nat.lt_trans h ordL_dig) (by decide +kernel)
/-- Number and number: the same bytes. -/
theorem Is8_any (n : Nat) (A : Option Addr) (c : Nat) (w : World) (hS : Sq w w.heap.size A c (ivs (dg n))) (hn : n < ordL) :
    Calls Try.prog 12 #[.agg (sA n), .slice A (dg n).length c] w fun e w' => e = .returned (.bool true) ∧ Below w.heap.size w w' := by
  have HS := hid hS
  have HBE := hid (fun W => ScBytes_e n W hn)
  have HB6 : Hid (∀ W A c, Sq W W.heap.size A c (ivs (dg n)) → Calls Try.prog 33 #[.slice A (dg n).length c, .int .i64 32] W fun e w' => ∃ v, e = .returned v ∧ OwnB w' W.heap.size v (leB 32 n) ∧ Below W.heap.size W w') := hid fun W A c h =>
    Bytes6_any n 32 A c W h (ordL_50 hn) (by omega)
  obtain ⟨l, hl⟩ : ∃ l, l = leB 32 n := ⟨_, rfl⟩
  have hll : l.length = 32 := by rw [hl]; exact leB_length 32 n
  have HLL := hid hll
  clear hll
  rw [← hl] at HBE HB6
  have X1 := hid (blkN (w := w) rfl (sA n) ST)
  have HB0 := hid ((Below.refl w.heap.size w).alloc (Nat.le_refl _) (.cells (sA n) ST))
  have HS0 := hid (HS.out.on6 HB0.out)
  clear hS hn hl
  go_enter Try.func12, Try.ntmps12
  go_wp2_with (with_reducible refine wpList_load_row rfl ST (.tmp 2) rfl w.heap.size rfl ST (sA n) (0, 0) _ X1.out Try.underlying26 rfl (infoSA _) ?_)
  refine (HBE.out _).mono ?_
  rintro e w1 ⟨v1, rfl, ho1, hb1⟩
  obtain ⟨A1, c1, rfl, hS1⟩ := own_sl ho1
  have HL1 := hid hS1.lie; have HS01 := hid (HS0.out.on6 hb1); have HB1 := hid (HB0.out.trans (hb1.mono HB0.out.size))
  clear ho1 hS1 hb1 HS0 HB0 HS X1 HBE
  go_wp2_with fail
  refine (HB6.out _ _ _ HS01.out).mono ?_
  rintro e w2 ⟨v2, rfl, ho2, hb2⟩
  obtain ⟨A2, c2, rfl, hS2⟩ := own_sl ho2
  have HL2 := hid hS2.lie; have HL12 := hid (HL1.out.below hb2); have HB2 := hid (HB1.out.trans (hb2.mono HB1.out.size))
  clear ho2 hS2 hb2 HL1 HS01 HB1 HB6
  go_wp2_with fail
  refine (Same_any A1 l c1 A2 l c2 w2 _ _ HL12.out HL2.out (by rw [HLL.out]; omega)).mono ?_
  rw [beq_self_eq_true]
  rintro e w3 ⟨rfl, q, rfl⟩
  go_wp2
  go_ret
  exact ⟨rfl, belowB_drewN HB2.out q⟩
def orB : List UInt8 := leB 32 ((ordL - 1) % ordL)
theorem orB_0 : orB[0]? = some 236 := by decide +kernel
theorem orB_31 : orB[31]? = some 16 := by decide +kernel
theorem orB_length : orB.length = 32 := leB_length 32 _
theorem ofL_nil : ofL [] = 0 := by decide +kernel
theorem ofL_one : ofL [1] = 1 := by decide +kernel
theorem one_lt : 1 < ordL := by decide +kernel
/-- One byte, made. -/
theorem one_sq (w : World) : Sq (w.alloc (.cells #[.int .u8 1] 5)) (w.alloc (.cells #[.int .u8 1] 5)).heap.size (some ⟨w.heap.size, 0, none⟩) 1 (bvs [1]) :=
  row_sq (heap_alloc_new w _) (fun j v h => by simpa [bvs] using h) (by decide) (by decide)
set_option maxHeartbeats 1000000 in
theorem alive8_any (w : World) : Calls Try.prog 6 #[] w fun e w' => e = .returned (.bool true) ∧ Below w.heap.size w w' := by
  have K1 : Hid (∀ W A c, Sq W W.heap.size A c (bvs [1]) → Calls Try.prog 7 #[.slice A 1 c] W (ScR W 1)) := hid fun W A c h => by
    have := ScOf_e A [1] c W h (by decide)
    rwa [ofL_one] at this
  have K0 : Hid (∀ W, Calls Try.prog 7 #[.slice none 0 0] W (ScR W 0)) := hid fun W => by
    have := ScOf_e none [] 0 W Sq.nil (by decide)
    rwa [ofL_nil] at this
  have KN := hid (fun W => ScNeg_e 1 W one_lt)
  have KB : Hid (∀ W, Calls Try.prog 28 #[.agg (sA ((ordL - 1) % ordL))] W fun e w' => ∃ v, e = .returned v ∧ OwnB w' W.heap.size v orB ∧ Below W.heap.size W w') := hid fun W => ScBytes_e _ W (Nat.mod_lt _ ordL_pos)
  have KS := hid (fun W => ScSame_e 0 0 W ordL_pos ordL_pos)
  rw [decide_eq_true rfl] at KS
  obtain ⟨d, hd⟩ : ∃ d, d = (ordL - 1) % ordL := ⟨_, rfl⟩
  rw [← hd] at KN KB
  have H1 := hid (one_sq w)
  have HB0 := hid ((Below.refl w.heap.size w).alloc (Nat.le_refl _) (.cells #[.int .u8 1] 5))
  clear hd
  go_enter Try.func6, Try.ntmps6
  go_wp2_with fail
  refine (K1.out _ _ _ H1.out).mono ?_
  rintro e w1 ⟨rfl, hb1⟩
  have HB1 := hid (HB0.out.trans (hb1.mono (by simp)))
  clear hb1 H1 HB0 K1
  go_wp2_with fail
  refine (KN.out _).mono ?_
  rintro e w2 ⟨rfl, hb2⟩
  have HB2 := hid (HB1.out.trans (hb2.mono HB1.out.size))
  clear hb2 HB1 KN
  go_wp2_with fail
  refine (KB.out _).mono ?_
  rintro e w3 ⟨v3, rfl, ho, hb3⟩
  have HB3 := hid (HB2.out.trans (hb3.mono HB2.out.size))
  obtain ⟨A3, c3, hv, hsl⟩ := own_sl ho
  rw [orB_length] at hv
  subst hv
  obtain ⟨b, o, rfl, hbl⟩ := hsl.sq.form (by rw [bvs_length, orB_length]; decide)
  have hlie := hsl.lie
  have h0 : w3.cell? ⟨b, o, none⟩ = some (.int .u8 236) := by
    obtain ⟨b', o', hA, _, h⟩ := hlie.byte (k := 0) (by rw [orB_length]; decide)
    simp only [Option.some.injEq, Addr.mk.injEq] at hA
    obtain ⟨rfl, rfl, _⟩ := hA
    have e : orB[0]'(by rw [orB_length]; decide) = 236 := by have := orB_0; rw [List.getElem?_eq_getElem (by rw [orB_length]; decide)] at this; injection this
    rw [e] at h
    exact h
  have h31 : w3.cell? ⟨b, o + 31, none⟩ = some (.int .u8 16) := by
    obtain ⟨b', o', hA, _, h⟩ := hlie.byte (k := 31) (by rw [orB_length]; decide)
    simp only [Option.some.injEq, Addr.mk.injEq] at hA
    obtain ⟨rfl, rfl, _⟩ := hA
    have e : orB[31]'(by rw [orB_length]; decide) = 16 := by have := orB_31; rw [List.getElem?_eq_getElem (by rw [orB_length]; decide)] at this; injection this
    rw [e] at h
    exact h
  clear ho hb3 hsl hlie KB hbl HB2
  go_wp2_with fail
  refine (K0.out _).mono ?_
  rintro e w4 ⟨rfl, hb4⟩
  have HB4 := hid (HB3.out.trans (hb4.mono HB3.out.size))
  clear hb4 HB3 K0 h0 h31
  go_wp2_with fail
  refine (KS.out _).mono ?_
  rintro e w5 ⟨rfl, hb5⟩
  have HB5 := hid (HB4.out.trans (hb5.mono HB4.out.size))
  clear hb5
  go_wp2
  go_ret
  exact ⟨rfl, HB5.out⟩
end Go.Proofs.Ytacikkhhacladaa
