/-
  Package field: a product folded; sums, differences, products and squares.
  Package field: a product folded; products and squares; which are the same, 0, odd.
-/
import Derived.Test.YtealegfmmeklcaaFld3
namespace Go.Proofs.Ytealegfmmeklcaa
section
open Go.RowKit
set_option linter.unusedVariables false
set_option linter.unusedSimpArgs false

/-- Three blocks: what came in, and what goes out. -/
def Fs (w wr : World) (X Y : Array Value) : Prop :=
  wr.heap[w.heap.size]? = some (.cells X ET (0, 0)) ∧ wr.heap[w.heap.size + 1]? = some (.cells Y ET (0, 0)) ∧ wr.heap[w.heap.size + 1 + 1]? = some (.cells z4 ET (0, 0)) ∧ Below w.heap.size w wr ∧ w.heap.size + 1 + 1 < wr.heap.size
theorem Fs.call {w wr w' : World} {X Y : Array Value} (h : Fs w wr X Y) (hb : Below wr.heap.size wr w') : Fs w w' X Y := by
  obtain ⟨h0, h1, h2, h4, h5⟩ := h
  exact ⟨block_below hb (by omega) h0, block_below hb (by omega) h1, block_below hb (by omega) h2, h4.trans (hb.mono (by omega)), by have := hb.size; omega⟩
theorem Fs.start (w : World) (X Y : Array Value) : Fs w (((w.alloc (.cells X ET)).alloc (.cells Y ET)).alloc (.cells z4 ET)) X Y :=
  ⟨blkA (blkA (blkN rfl X ET) _) _, blkA (blkN (by simp) Y ET) _, blkN (by simp) z4 ET, (((Below.refl _ _).alloc (Nat.le_refl _) _).alloc (by simp) _).alloc (by simp; omega) _, by simp⟩
/-- Two blocks: what came in, and what goes out. -/
def Fo (w wr : World) (X : Array Value) : Prop :=
  wr.heap[w.heap.size]? = some (.cells X ET (0, 0)) ∧ wr.heap[w.heap.size + 1]? = some (.cells z4 ET (0, 0)) ∧ Below w.heap.size w wr ∧ w.heap.size + 1 < wr.heap.size
theorem Fo.call {w wr w' : World} {X : Array Value} (h : Fo w wr X) (hb : Below wr.heap.size wr w') : Fo w w' X := by
  obtain ⟨h0, h1, h4, h5⟩ := h
  exact ⟨block_below hb (by omega) h0, block_below hb (by omega) h1, h4.trans (hb.mono (by omega)), by have := hb.size; omega⟩
theorem Fo.start (w : World) (X : Array Value) : Fo w ((w.alloc (.cells X ET)).alloc (.cells z4 ET)) X :=
  ⟨blkA (blkN rfl X ET) _, blkN (by simp) z4 ET, ((Below.refl _ _).alloc (Nat.le_refl _) _).alloc (by simp) _, by simp⟩

theorem pp_big : 2 * pp < 115792089237316195423570985008687907853269984665640564039457584007913129639936 := by decide +kernel

theorem fold_num {l u t : Nat} (h : t = 38 * u + l) : (t % 57896044618658097711785492504343953926634992332820282019728792003956564819968 + 19 * (t / 57896044618658097711785492504343953926634992332820282019728792003956564819968)) % pp = (l + 115792089237316195423570985008687907853269984665640564039457584007913129639936 * u) % pp := by
  rw [pp_def]
  omega

theorem Add_e (x y : Nat) (w : World) (hx : x < pp) (hy : y < pp) :
    Calls Try.prog 58 #[.agg (eA x), .agg (eA y)] w fun e w' => e = .returned (.agg (eA ((x + y) % pp))) ∧ Below w.heap.size w w' := by
  have hp := pp_big
  have C1 := hid (fun W => sum_e x y W (by omega))
  have C2 := hid (fun W => below_e (x + y) W (by omega))
  have F := hid (Fs.start w (eA x) (eA y))
  have X1 := hid F.out.1
  have Y1 := hid F.out.2.1
  clear hx hy hp
  go_enter Try.func58, Try.ntmps58
  go_wp2_with (first | (with_reducible refine wpList_load_row rfl ET (.tmp 2) rfl (w.heap.size) rfl ET (eA x) (0, 0) _ X1.out Try.underlying26 rfl (infoEA _) ?_) | (with_reducible refine wpList_load_row rfl ET (.tmp 3) rfl (w.heap.size + 1) rfl ET (eA y) (0, 0) _ Y1.out Try.underlying26 rfl (infoEA _) ?_))
  refine (C1.out _).mono ?_
  rintro e w1 ⟨rfl, hb⟩
  have F1 := hid (F.out.call hb)
  clear hb F
  clear X1 Y1
  go_wp2_with fail
  refine (C2.out _).mono ?_
  rintro e w2 ⟨rfl, hb⟩
  have F2 := hid (F1.out.call hb)
  clear hb F1
  have Z := hid F2.out.2.2.1
  go_wp2_with (with_reducible refine wpList_store_row rfl ET (.tmp 4) _ rfl (w.heap.size + 1 + 1) (eA ((x + y) % pp)) rfl rfl ET z4 Z.out (infoEA _) (sizeZA _) (oneEA _) ?_)
  refine bodyPost_ret (v := .agg (eA ((x + y) % pp))) (results_cell_row rfl _ _ (w.heap.size + 1 + 1) ET _ (0, 0) _ rfl (setRow_heap _ _ _ _ _ _ Z.out) Try.underlying26 rfl (infoEA _)) rfl ⟨rfl, ?_⟩
  exact belowRow F2.out.2.2.2.1 (by omega) _

set_option maxHeartbeats 400000 in
theorem Sub_e (x y : Nat) (w : World) (hx : x < pp) (hy : y < pp) :
    Calls Try.prog 56 #[.agg (eA x), .agg (eA y)] w fun e w' => e = .returned (.agg (eA ((x + (pp - y)) % pp))) ∧ Below w.heap.size w w' := by
  have hp := pp_big
  have C1 := hid (fun W => missing_e y W (by omega))
  have C2 := hid (fun W => sum_e x (pp - y) W (by omega))
  have C3 := hid (fun W => below_e (x + (pp - y)) W (by omega))
  have F := hid (Fs.start w (eA x) (eA y))
  clear hx hy hp
  go_enter Try.func56, Try.ntmps56
  go_wp2
  generalize hw0 : ((w.alloc (.cells (eA x) ET)).alloc (.cells (eA y) ET)).alloc (.cells z4 ET) = w0 at F ⊢
  clear hw0
  refine wp_region_grown_tail 5 (by kernel_rfl) (by kernel_rfl) ?_
  have D1 : Hid (∀ w1, Below w0.heap.size w0 w1 → Calls Try.prog 79 #[.agg (eA y)] w1 fun e w2 => e = .returned (.agg (eA (pp - y))) ∧ Below w0.heap.size w0 w2) := hid fun w1 hw1 =>
    (C1.out w1).mono fun e w2 h => ⟨h.1, hw1.trans (h.2.mono hw1.size)⟩
  have D2 : Hid (∀ w1, Below w0.heap.size w0 w1 → Calls Try.prog 81 #[.agg (eA x), .agg (eA (pp - y))] w1 fun e w2 => e = .returned (.agg (eA (x + (pp - y)))) ∧ Below w0.heap.size w0 w2) := hid fun w1 hw1 =>
    (C2.out w1).mono fun e w2 h => ⟨h.1, hw1.trans (h.2.mono hw1.size)⟩
  have D3 : Hid (∀ w1, Below w0.heap.size w0 w1 → Calls Try.prog 76 #[.agg (eA (x + (pp - y)))] w1 fun e w2 => e = .returned (.agg (eA ((x + (pp - y)) % pp))) ∧ Below w0.heap.size w0 w2) := hid fun w1 hw1 =>
    (C3.out w1).mono fun e w2 h => ⟨h.1, hw1.trans (h.2.mono hw1.size)⟩
  refine quiet_row rfl ET (.tmp 2) rfl w.heap.size rfl ET (eA x) (0, 0) _ (fun w' h => (F.out.call h).1) Try.underlying26 rfl (infoEA _) ?_
  refine quiet_row rfl ET (.tmp 3) rfl (w.heap.size + 1) rfl ET (eA y) (0, 0) _ (fun w' h => (F.out.call h).2.1) Try.underlying26 rfl (infoEA _) ?_
  refine wpQuiet_step (fun K hK => ?_)
  go_simp
  refine ⟨_, D1.out, hK _ ?_⟩
  clear hK K
  refine wpQuiet_step (fun K hK => ?_)
  go_simp
  refine ⟨_, D2.out, hK _ ?_⟩
  clear hK K
  refine wpQuiet_step (fun K hK => ?_)
  go_simp
  refine ⟨_, D3.out, hK _ ?_⟩
  clear hK K
  refine wpQuiet_nil ?_
  intro w2 hb
  have F2 := hid (F.out.call hb)
  clear hb F
  simp only [List.drop_succ_cons, List.drop_zero]
  have Z := hid F2.out.2.2.1
  go_wp2_with (with_reducible refine wpList_store_row rfl ET (.tmp 4) _ rfl (w.heap.size + 1 + 1) (eA ((x + (pp - y)) % pp)) rfl rfl ET z4 Z.out (infoEA _) (sizeZA _) (oneEA _) ?_)
  refine bodyPost_ret (v := .agg (eA ((x + (pp - y)) % pp))) (results_cell_row rfl _ _ (w.heap.size + 1 + 1) ET _ (0, 0) _ rfl (setRow_heap _ _ _ _ _ _ Z.out) Try.underlying26 rfl (infoEA _)) rfl ⟨rfl, ?_⟩
  exact belowRow F2.out.2.2.2.1 (by omega) _
end

section
open Go.RowKit
set_option linter.unusedVariables false
set_option linter.unusedSimpArgs false

theorem fold_parts {t x0 q q0 q1 q2 q3 : Nat} (h : t = x0 + 18446744073709551616 * q) (h0 : x0 < 18446744073709551616) (hq : q = q0 + 18446744073709551616 * q1 + 340282366920938463463374607431768211456 * q2 + 6277101735386680763835789423207666416102355444464034512896 * q3)
    (b0 : q0 < 18446744073709551616) (b1 : q1 < 18446744073709551616) (b2 : q2 < 18446744073709551616) :
    t % 57896044618658097711785492504343953926634992332820282019728792003956564819968 = x0 + 18446744073709551616 * q0 + 340282366920938463463374607431768211456 * q1 + 6277101735386680763835789423207666416102355444464034512896 * (q2 % 9223372036854775808) ∧
    t / 57896044618658097711785492504343953926634992332820282019728792003956564819968 = q3 * 2 + q2 / 9223372036854775808 := by
  have e : q2 = q2 % 9223372036854775808 + 9223372036854775808 * (q2 / 9223372036854775808) := by omega
  have hr : q2 % 9223372036854775808 < 9223372036854775808 := Nat.mod_lt _ (by omega)
  generalize q2 % 9223372036854775808 = r at *
  generalize q2 / 9223372036854775808 = s at *
  have ht : t = (x0 + 18446744073709551616 * q0 + 340282366920938463463374607431768211456 * q1 + 6277101735386680763835789423207666416102355444464034512896 * r) + 57896044618658097711785492504343953926634992332820282019728792003956564819968 * (q3 * 2 + s) := by omega
  have hl : x0 + 18446744073709551616 * q0 + 340282366920938463463374607431768211456 * q1 + 6277101735386680763835789423207666416102355444464034512896 * r < 57896044618658097711785492504343953926634992332820282019728792003956564819968 := by omega
  rw [ht, Nat.add_mul_mod_self_left, Nat.mod_eq_of_lt hl, Nat.add_mul_div_left _ _ (by omega), Nat.div_eq_of_lt hl, Nat.zero_add]
  exact ⟨rfl, rfl⟩
theorem fold_lt {t l u : Nat} (h : t = 38 * u + l) (hl : l < 115792089237316195423570985008687907853269984665640564039457584007913129639936) (hu : u < 115792089237316195423570985008687907853269984665640564039457584007913129639936) :
    t / 57896044618658097711785492504343953926634992332820282019728792003956564819968 < 78 ∧ t / 18446744073709551616 < 115792089237316195423570985008687907853269984665640564039457584007913129639936 := by omega
theorem fold_two {a b : Nat} (ha : a < 57896044618658097711785492504343953926634992332820282019728792003956564819968) (hb : b < 78) : a + 19 * b < 2 * pp ∧ a + 19 * b < 115792089237316195423570985008687907853269984665640564039457584007913129639936 := by
  rw [pp_def]
  omega

set_option maxHeartbeats 1000000 in
theorem folded_e (l u : Nat) (w : World) (hl : l < 115792089237316195423570985008687907853269984665640564039457584007913129639936) (hu : u < 115792089237316195423570985008687907853269984665640564039457584007913129639936) :
    Calls Try.prog 82 #[.agg (eA l), .agg (eA u)] w fun e w' => e = .returned (.agg (eA ((l + 115792089237316195423570985008687907853269984665640564039457584007913129639936 * u) % pp))) ∧ Below w.heap.size w w' := by
  have hr := fun W => row_e 38 u l W (by omega) hu hl
  obtain ⟨t, ht⟩ : ∃ t, t = 38 * u + l := ⟨_, rfl⟩
  rw [← ht] at hr
  have hfl := fold_lt ht hl hu
  obtain ⟨x0, hx0⟩ : ∃ x, x = t % 18446744073709551616 := ⟨_, rfl⟩
  obtain ⟨q, hq⟩ : ∃ q, q = t / 18446744073709551616 := ⟨_, rfl⟩
  rw [← hx0, ← hq] at hr
  have hdm := div_mod_sum hx0 hq
  have hx0l := rest_lt hx0
  have hql := hfl.2
  rw [← hq] at hql
  obtain ⟨q0, q1, q2, q3, b0, b1, b2, b3, hqv, eq⟩ := words q hql
  rw [eq] at hr
  have hparts := fold_parts hdm hx0l hqv b0 b1 b2
  obtain ⟨r2, hr2⟩ : ∃ r, r = q2 % 9223372036854775808 := ⟨_, rfl⟩
  obtain ⟨y, hy⟩ : ∃ y, y = q3 * 2 + q2 / 9223372036854775808 := ⟨_, rfl⟩
  have hyl : y < 78 := by rw [hy, ← hparts.2]; exact hfl.1
  obtain ⟨m, hm⟩ : ∃ m, m = x0 + 18446744073709551616 * q0 + 340282366920938463463374607431768211456 * q1 + 6277101735386680763835789423207666416102355444464034512896 * r2 := ⟨_, rfl⟩
  have hr2l : r2 < 9223372036854775808 := by rw [hr2]; exact Nat.mod_lt _ (by omega)
  have hml : m < 57896044618658097711785492504343953926634992332820282019728792003956564819968 := by rw [hm, hr2, ← hparts.1]; exact Nat.mod_lt _ (by omega)
  have hmA : eA m = e4 x0 q0 q1 r2 := by rw [hm]; exact eA_of _ _ _ _ hx0l b0 b1 (by omega)
  have hyA := eA_small (19 * y) (by omega)
  have htwo := fold_two hml hyl
  have hfn := fold_num ht
  rw [hparts.1, hparts.2, ← hr2, ← hy, ← hm] at hfn
  have hs := fun W => sum_e m (19 * y) W htwo.2
  rw [hmA, hyA] at hs
  have hb := fun W => below_e (m + 19 * y) W htwo.1
  rw [hfn] at hb
  obtain ⟨v, hv⟩ : ∃ v, v = (l + 115792089237316195423570985008687907853269984665640564039457584007913129639936 * u) % pp := ⟨_, rfl⟩
  rw [← hv] at hb ⊢
  have R := hid hr; have S := hid hs; have C := hid hb
  have w1 : IntKind.u64.wrap ((q3 : Int) * 2) = (q3 : Int) * 2 := by rw [IntKind.wrap_u64]; omega
  have w2 : bits .or .u64 ((q3 : Int) * 2) ((q2 : Int) / 9223372036854775808) = (y : Int) := by
    have h := or_join 1 (q3 * 2) (q2 / 9223372036854775808) (by omega) (by omega) (by omega) (by omega)
    have e1 : ((q3 * 2 : Nat) : Int) = (q3 : Int) * 2 := by omega
    have e2 : ((q2 / 9223372036854775808 : Nat) : Int) = (q2 : Int) / 9223372036854775808 := by omega
    rw [e1, e2, ← hy] at h
    exact h
  have w3 : IntKind.u64.wrap (19 * (y : Int)) = ((19 * y : Nat) : Int) := by rw [IntKind.wrap_u64]; omega
  have w4 : bits .and .u64 (q2 : Int) 9223372036854775807 = (r2 : Int) := by rw [and_top q2 b2, hr2]
  obtain ⟨y19, hy19⟩ : ∃ z, z = 19 * y := ⟨_, rfl⟩
  rw [← hy19] at w3 S C
  have F := hid (Fs.start w (eA l) (eA u))
  have X1 := hid F.out.1
  have Y1 := hid F.out.2.1
  clear hr ht hfl hx0 hq hdm hx0l hql b0 b1 b2 b3 hqv eq hparts hr2 hy hyl hm hr2l hml hmA hyA htwo hfn hs hb hv hy19 hl hu
  go_enter Try.func82, Try.ntmps82
  go_wp2_with (first | (with_reducible refine wpList_load_row rfl ET (.tmp 2) rfl (w.heap.size) rfl ET (eA l) (0, 0) _ X1.out Try.underlying26 rfl (infoEA _) ?_) | (with_reducible refine wpList_load_row rfl ET (.tmp 3) rfl (w.heap.size + 1) rfl ET (eA u) (0, 0) _ Y1.out Try.underlying26 rfl (infoEA _) ?_))
  refine (R.out _).mono ?_
  rintro e w1 ⟨rfl, hb⟩
  have F1 := hid (F.out.call hb)
  clear hb F
  clear X1 Y1
  go_wp2_with fail
  have FA := hid (F1.out.call ((Below.refl w1.heap.size w1).alloc (Nat.le_refl _) (.cells (e4 q0 q1 q2 q3) ET)))
  clear F1
  refine (S.out _).mono ?_
  rintro e w2 ⟨rfl, hb⟩
  have F2 := hid (FA.out.call hb)
  clear hb FA
  go_wp2_with fail
  refine (C.out _).mono ?_
  rintro e w3 ⟨rfl, hb⟩
  have F3 := hid (F2.out.call hb)
  clear hb F2
  have Z := hid F3.out.2.2.1
  go_wp2_with (with_reducible refine wpList_store_row rfl ET (.tmp 4) _ rfl (w.heap.size + 1 + 1) (eA (v)) rfl rfl ET z4 Z.out (infoEA _) (sizeZA _) (oneEA _) ?_)
  refine bodyPost_ret (v := .agg (eA (v))) (results_cell_row rfl _ _ (w.heap.size + 1 + 1) ET _ (0, 0) _ rfl (setRow_heap _ _ _ _ _ _ Z.out) Try.underlying26 rfl (infoEA _)) rfl ⟨rfl, ?_⟩
  exact belowRow F3.out.2.2.2.1 (by omega) _

theorem mul_back (z : Nat) : z % 115792089237316195423570985008687907853269984665640564039457584007913129639936 + 115792089237316195423570985008687907853269984665640564039457584007913129639936 * (z / 115792089237316195423570985008687907853269984665640564039457584007913129639936) = z := Nat.mod_add_div _ _
theorem mul_high {x y : Nat} (hx : x < 115792089237316195423570985008687907853269984665640564039457584007913129639936) (hy : y < 115792089237316195423570985008687907853269984665640564039457584007913129639936) : x * y / 115792089237316195423570985008687907853269984665640564039457584007913129639936 < 115792089237316195423570985008687907853269984665640564039457584007913129639936 :=
  Nat.div_lt_of_lt_mul (Nat.mul_lt_mul'' hx hy)
theorem pp_lt {x : Nat} (h : x < pp) : x < 115792089237316195423570985008687907853269984665640564039457584007913129639936 := by have := pp_big; omega
theorem Mul_e (x y : Nat) (w : World) (hx : x < pp) (hy : y < pp) :
    Calls Try.prog 60 #[.agg (eA x), .agg (eA y)] w fun e w' => e = .returned (.agg (eA (x * y % pp))) ∧ Below w.heap.size w w' := by
  have C1 := hid (fun W => product_e x y W (pp_lt hx) (pp_lt hy))
  have C2 := hid (fun W => folded_e (x * y % 115792089237316195423570985008687907853269984665640564039457584007913129639936) (x * y / 115792089237316195423570985008687907853269984665640564039457584007913129639936) W (Nat.mod_lt _ (by omega)) (mul_high (pp_lt hx) (pp_lt hy)))
  rw [mul_back] at C2
  obtain ⟨lo, hlo⟩ : ∃ a, a = x * y % 115792089237316195423570985008687907853269984665640564039457584007913129639936 := ⟨_, rfl⟩
  obtain ⟨hi, hhi⟩ : ∃ a, a = x * y / 115792089237316195423570985008687907853269984665640564039457584007913129639936 := ⟨_, rfl⟩
  rw [← hlo, ← hhi] at C1 C2
  have F := hid (Fs.start w (eA x) (eA y))
  have X1 := hid F.out.1
  have Y1 := hid F.out.2.1
  clear hx hy hlo hhi
  go_enter Try.func60, Try.ntmps60
  go_wp2_with (first | (with_reducible refine wpList_load_row rfl ET (.tmp 2) rfl (w.heap.size) rfl ET (eA x) (0, 0) _ X1.out Try.underlying26 rfl (infoEA _) ?_) | (with_reducible refine wpList_load_row rfl ET (.tmp 3) rfl (w.heap.size + 1) rfl ET (eA y) (0, 0) _ Y1.out Try.underlying26 rfl (infoEA _) ?_))
  refine (C1.out _).mono ?_
  rintro e w1 ⟨rfl, hb⟩
  have F1 := hid (F.out.call hb)
  clear hb F
  clear X1 Y1
  go_wp2_with fail
  refine (C2.out _).mono ?_
  rintro e w2 ⟨rfl, hb⟩
  have F2 := hid (F1.out.call hb)
  clear hb F1
  have Z := hid F2.out.2.2.1
  go_wp2_with (with_reducible refine wpList_store_row rfl ET (.tmp 4) _ rfl (w.heap.size + 1 + 1) (eA (x * y % pp)) rfl rfl ET z4 Z.out (infoEA _) (sizeZA _) (oneEA _) ?_)
  refine bodyPost_ret (v := .agg (eA (x * y % pp))) (results_cell_row rfl _ _ (w.heap.size + 1 + 1) ET _ (0, 0) _ rfl (setRow_heap _ _ _ _ _ _ Z.out) Try.underlying26 rfl (infoEA _)) rfl ⟨rfl, ?_⟩
  exact belowRow F2.out.2.2.2.1 (by omega) _
end
end Go.Proofs.Ytealegfmmeklcaa
