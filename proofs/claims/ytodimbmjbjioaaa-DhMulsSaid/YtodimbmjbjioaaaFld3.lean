/-
  Package field: a product, in its lower and its upper words.
-/
import Derived.Test.YtodimbmjbjioaaaFld2
import Derived.Test.YtodimbmjbjioaaaStepR
namespace Go.Proofs.Ytodimbmjbjioaaa
open Go.RowKit
set_option linter.unusedVariables false
set_option linter.unusedSimpArgs false

abbrev z4 : Array Value := #[.int .u64 0, .int .u64 0, .int .u64 0, .int .u64 0]
theorem infoEA (n : Nat) : (Try.prog.info? 33).map (·.size) = some (eA n).size := infoE
theorem sizeEA (n m : Nat) : (eA n).size = (eA m).size := rfl
theorem sizeZA (m : Nat) : z4.size = (eA m).size := rfl
theorem oneEA (n : Nat) : (eA n).all (·.oneCell') = true := e4_one _ _ _ _
/-- Four blocks: what came in, and what goes out. -/
def Fr (w wr : World) (X Y L U : Array Value) : Prop :=
  wr.heap[w.heap.size]? = some (.cells X ET (0, 0)) ∧ wr.heap[w.heap.size + 1]? = some (.cells Y ET (0, 0)) ∧ wr.heap[w.heap.size + 1 + 1]? = some (.cells L ET (0, 0)) ∧ wr.heap[w.heap.size + 1 + 1 + 1]? = some (.cells U ET (0, 0)) ∧ Below w.heap.size w wr ∧ w.heap.size + 1 + 1 + 1 < wr.heap.size
theorem Fr.call {w wr w' : World} {X Y L U : Array Value} (h : Fr w wr X Y L U) (hb : Below wr.heap.size wr w') : Fr w w' X Y L U := by
  obtain ⟨h0, h1, h2, h3, h4, h5⟩ := h
  exact ⟨block_below hb (by omega) h0, block_below hb (by omega) h1, block_below hb (by omega) h2, block_below hb (by omega) h3, h4.trans (hb.mono (by omega)), by have := hb.size; omega⟩
theorem Fr.store {w wr : World} {X Y L U : Array Value} (h : Fr w wr X Y L U) (k : Nat) (v : Value) (U' : Array Value) :
    Fr w ((wr.setCell ⟨w.heap.size + 1 + 1, k, none⟩ v).setRow (w.heap.size + 1 + 1 + 1) U') X Y (L.setIfInBounds k v) U' := by
  obtain ⟨h0, h1, h2, h3, h4, h5⟩ := h
  refine ⟨?_, ?_, ?_, ?_, ?_, ?_⟩
  · exact (setRow_other _ _ _ _ (by omega)).trans ((heap_setCell_other _ _ _ _ (by simp <;> omega)).trans h0)
  · exact (setRow_other _ _ _ _ (by omega)).trans ((heap_setCell_other _ _ _ _ (by simp <;> omega)).trans h1)
  · exact (setRow_other _ _ _ _ (by omega)).trans (block_set h2 k v)
  · exact setRow_heap _ _ _ _ _ _ ((heap_setCell_other _ _ _ _ (by simp <;> omega)).trans h3)
  · exact belowRow (h4.setCell (by simp <;> omega) _) (by omega) _
  · rw [size_setRow]; simpa using h5
theorem Fr.start (w : World) (X Y : Array Value) : Fr w ((((w.alloc (.cells X ET)).alloc (.cells Y ET)).alloc (.cells z4 ET)).alloc (.cells z4 ET)) X Y z4 z4 :=
  ⟨blkA (blkA (blkA (blkN rfl X ET) _) _) _, blkA (blkA (blkN (by simp) Y ET) _) _, blkA (blkN (by simp) z4 ET) _, blkN (by simp) z4 ET,
    ((((Below.refl _ _).alloc (Nat.le_refl _) _).alloc (by simp) _).alloc (by simp; omega) _).alloc (by simp; omega) _, by simp⟩
theorem Fr.x {w wr : World} {X Y L U : Array Value} (h : Fr w wr X Y L U) (k : Nat) (v : Value) (hv : X[k]? = some v) : wr.cell? ⟨w.heap.size, k, none⟩ = some v := cell_of h.1 k v hv
theorem Fr.l {w wr : World} {X Y L U : Array Value} (h : Fr w wr X Y L U) (k : Nat) (v : Value) (hv : L[k]? = some v) : wr.cell? ⟨w.heap.size + 1 + 1, k, none⟩ = some v := cell_of h.2.2.1 k v hv
theorem Fr.lf {w wr : World} {X Y L U : Array Value} (h : Fr w wr X Y L U) (k : Nat) : wr.frozen? ⟨w.heap.size + 1 + 1, k, none⟩ = false := frozen_of_row _ _ _ _ _ h.2.2.1
theorem results_two_e {fn : Func} {p q : Tmp} {ty : TypeId} (h : fn.results = #[.cell p ty, .cell q ty]) (tmps : Array Value) (w : World) (a b : Addr) (u v : Value) {P : Program}
    (hp : tmps.getD p undef = .pointer (some a)) (hq : tmps.getD q undef = .pointer (some b)) (hl : (loadVar ty a).run P w = .ok u w) (hm : (loadVar ty b).run P w = .ok v w) :
    (results fn tmps).run P w = .ok (.tuple #[u, v]) w := by
  have hp' : tmps[p]?.getD undef = .pointer (some a) := by rw [← hp]; simp [Array.getD_eq_getD_getElem?]
  have hq' : tmps[q]?.getD undef = .pointer (some b) := by rw [← hq]; simp [Array.getD_eq_getD_getElem?]
  simp [results, h, hp', hq', asAddr, hl, hm]
/-- The four steps of a product. -/
theorem product_num {xa xb xc xd y t0 t1 t2 t3 l0 l1 l2 l3 u1 u2 u3 u4 : Nat} (h0 : t0 = l0 + 18446744073709551616 * u1) (h1 : t1 = l1 + 18446744073709551616 * u2) (h2 : t2 = l2 + 18446744073709551616 * u3) (h3 : t3 = l3 + 18446744073709551616 * u4)
    (e0 : t0 = xa * y) (e1 : t1 = xb * y + u1) (e2 : t2 = xc * y + u2) (e3 : t3 = xd * y + u3) :
    (xa + 18446744073709551616 * xb + 340282366920938463463374607431768211456 * xc + 6277101735386680763835789423207666416102355444464034512896 * xd) * y = (l0 + 18446744073709551616 * l1 + 340282366920938463463374607431768211456 * l2 + 6277101735386680763835789423207666416102355444464034512896 * l3) + 115792089237316195423570985008687907853269984665640564039457584007913129639936 * u4 := by
  rw [Nat.add_mul, Nat.add_mul, Nat.add_mul, Nat.mul_assoc, Nat.mul_assoc, Nat.mul_assoc]
  omega
theorem step_lt {t x y u : Nat} (h : t = x * y + u) (hx : x < 18446744073709551616) (hy : y < 115792089237316195423570985008687907853269984665640564039457584007913129639936) (hu : u < 115792089237316195423570985008687907853269984665640564039457584007913129639936) : t / 18446744073709551616 < 115792089237316195423570985008687907853269984665640564039457584007913129639936 := by
  have : x * y ≤ 18446744073709551615 * 115792089237316195423570985008687907853269984665640564039457584007913129639935 := Nat.mul_le_mul (by omega) (by omega)
  omega
theorem product_end {z l u : Nat} (h : z = l + 115792089237316195423570985008687907853269984665640564039457584007913129639936 * u) (hl : l < 115792089237316195423570985008687907853269984665640564039457584007913129639936) :
    z % 115792089237316195423570985008687907853269984665640564039457584007913129639936 = l ∧ z / 115792089237316195423570985008687907853269984665640564039457584007913129639936 = u := by
  constructor <;> omega
theorem four_lt {a b c d : Nat} (ha : a < 18446744073709551616) (hb : b < 18446744073709551616) (hc : c < 18446744073709551616) (hd : d < 18446744073709551616) : a + 18446744073709551616 * b + 340282366920938463463374607431768211456 * c + 6277101735386680763835789423207666416102355444464034512896 * d < 115792089237316195423570985008687907853269984665640564039457584007913129639936 := by omega

set_option maxHeartbeats 1000000 in
theorem product_e (x y : Nat) (w : World) (hx : x < 115792089237316195423570985008687907853269984665640564039457584007913129639936) (hy : y < 115792089237316195423570985008687907853269984665640564039457584007913129639936) :
    Calls Try.prog 41 #[.agg (eA x), .agg (eA y)] w fun e w' => e = .returned (.tuple #[.agg (eA (x * y % 115792089237316195423570985008687907853269984665640564039457584007913129639936)), .agg (eA (x * y / 115792089237316195423570985008687907853269984665640564039457584007913129639936))]) ∧ Below w.heap.size w w' := by
  obtain ⟨xa, xb, xc, xd, ha, hb, hc, hd, hxv, ex⟩ := words x hx
  rw [ex]
  have hr0 := fun W => row_e xa y 0 W ha hy (by omega)
  rw [Nat.add_zero] at hr0
  obtain ⟨t0, ht0⟩ : ∃ t, t = xa * y := ⟨_, rfl⟩
  have lt1 : t0 / 18446744073709551616 < 115792089237316195423570985008687907853269984665640564039457584007913129639936 := step_lt (u := 0) ht0 ha hy (by omega)
  rw [← ht0] at hr0
  obtain ⟨l0, hl0⟩ : ∃ l, l = t0 % 18446744073709551616 := ⟨_, rfl⟩
  obtain ⟨u1, hu1⟩ : ∃ u, u = t0 / 18446744073709551616 := ⟨_, rfl⟩
  rw [← hl0, ← hu1] at hr0
  rw [← hu1] at lt1
  have d0 := div_mod_sum hl0 hu1
  have ll0 := rest_lt hl0
  have R0 := hid hr0
  clear hr0 hl0 hu1
  have hr1 := fun W => row_e xb y u1 W hb hy lt1
  obtain ⟨t1, ht1⟩ : ∃ t, t = xb * y + u1 := ⟨_, rfl⟩
  have lt2 : t1 / 18446744073709551616 < 115792089237316195423570985008687907853269984665640564039457584007913129639936 := step_lt ht1 hb hy lt1
  rw [← ht1] at hr1
  obtain ⟨l1, hl1⟩ : ∃ l, l = t1 % 18446744073709551616 := ⟨_, rfl⟩
  obtain ⟨u2, hu2⟩ : ∃ u, u = t1 / 18446744073709551616 := ⟨_, rfl⟩
  rw [← hl1, ← hu2] at hr1
  rw [← hu2] at lt2
  have d1 := div_mod_sum hl1 hu2
  have ll1 := rest_lt hl1
  have R1 := hid hr1
  clear hr1 hl1 hu2
  have hr2 := fun W => row_e xc y u2 W hc hy lt2
  obtain ⟨t2, ht2⟩ : ∃ t, t = xc * y + u2 := ⟨_, rfl⟩
  have lt3 : t2 / 18446744073709551616 < 115792089237316195423570985008687907853269984665640564039457584007913129639936 := step_lt ht2 hc hy lt2
  rw [← ht2] at hr2
  obtain ⟨l2, hl2⟩ : ∃ l, l = t2 % 18446744073709551616 := ⟨_, rfl⟩
  obtain ⟨u3, hu3⟩ : ∃ u, u = t2 / 18446744073709551616 := ⟨_, rfl⟩
  rw [← hl2, ← hu3] at hr2
  rw [← hu3] at lt3
  have d2 := div_mod_sum hl2 hu3
  have ll2 := rest_lt hl2
  have R2 := hid hr2
  clear hr2 hl2 hu3
  have hr3 := fun W => row_e xd y u3 W hd hy lt3
  obtain ⟨t3, ht3⟩ : ∃ t, t = xd * y + u3 := ⟨_, rfl⟩
  have lt4 : t3 / 18446744073709551616 < 115792089237316195423570985008687907853269984665640564039457584007913129639936 := step_lt ht3 hd hy lt3
  rw [← ht3] at hr3
  obtain ⟨l3, hl3⟩ : ∃ l, l = t3 % 18446744073709551616 := ⟨_, rfl⟩
  obtain ⟨u4, hu4⟩ : ∃ u, u = t3 / 18446744073709551616 := ⟨_, rfl⟩
  rw [← hl3, ← hu4] at hr3
  rw [← hu4] at lt4
  have d3 := div_mod_sum hl3 hu4
  have ll3 := rest_lt hl3
  have R3 := hid hr3
  clear hr3 hl3 hu4
  have hnum := product_num d0 d1 d2 d3 ht0 ht1 ht2 ht3
  rw [← hxv] at hnum
  have hend := product_end hnum (four_lt ll0 ll1 ll2 ll3)
  have hL : eA (x * y % 115792089237316195423570985008687907853269984665640564039457584007913129639936) = e4 l0 l1 l2 l3 := by rw [hend.1]; exact eA_of _ _ _ _ ll0 ll1 ll2 ll3
  have hU : eA (x * y / 115792089237316195423570985008687907853269984665640564039457584007913129639936) = eA u4 := by rw [hend.2]
  have HL := hid hL; have HU := hid hU
  clear hx hy ha hb hc hd hxv ex hnum hend hL hU d0 d1 d2 d3 ll0 ll1 ll2 ll3 lt1 lt2 lt3 lt4 ht0 ht1 ht2 ht3
  have F := hid (Fr.start w (e4 xa xb xc xd) (eA y))
  have c0 := F.out.x 0 (.int .u64 (xa : Int)) rfl
  go_enter Try.func41, Try.ntmps41
  have Y1 := hid F.out.2.1
  have U1 := hid F.out.2.2.2.1
  go_wp2_with (first | (with_reducible refine wpList_load_row rfl ET (.tmp 3) rfl (w.heap.size + 1) rfl ET (eA y) (0, 0) _ Y1.out Try.underlying33 rfl (infoEA y) ?_) | (with_reducible refine wpList_load_row rfl ET (.tmp 5) rfl (w.heap.size + 1 + 1 + 1) rfl ET z4 (0, 0) _ U1.out Try.underlying33 rfl (infoE4 0 0 0 0) ?_))
  refine (R0.out _).mono ?_
  rintro e w1 ⟨rfl, hb⟩
  have G := hid (F.out.call hb)
  have cl := G.out.l 0 (.int .u64 0) rfl
  have cf := G.out.lf 0
  have F2 : Hid (Fr w ((w1.setCell ⟨w.heap.size + 1 + 1, 0, none⟩ (.int .u64 (l0 : Int))).setRow (w.heap.size + 1 + 1 + 1) (eA u1)) (e4 xa xb xc xd) (eA y) (e4 l0 0 0 0) (eA u1)) := hid (G.out.store 0 _ _)
  have s3 : Hid ((w1.setCell ⟨w.heap.size + 1 + 1, 0, none⟩ (.int .u64 (l0 : Int))).heap[w.heap.size + 1 + 1 + 1]? = some (.cells z4 ET (0, 0))) := hid ((heap_setCell_other _ _ _ _ (by simp <;> omega)).trans G.out.2.2.2.1)
  clear hb F c0 Y1 U1
  have F := F2
  clear F2
  have c0 := F.out.x 1 (.int .u64 (xb : Int)) rfl
  have Y1 := hid F.out.2.1
  have U1 := hid F.out.2.2.2.1
  go_wp2_with (first | (with_reducible refine wpList_load_row rfl ET (.tmp 3) rfl (w.heap.size + 1) rfl ET (eA y) (0, 0) _ Y1.out Try.underlying33 rfl (infoEA y) ?_) | (with_reducible refine wpList_load_row rfl ET (.tmp 5) rfl (w.heap.size + 1 + 1 + 1) rfl ET (eA u1) (0, 0) _ U1.out Try.underlying33 rfl (infoEA u1) ?_) | (with_reducible refine wpList_store_row rfl ET (.tmp 5) _ rfl (w.heap.size + 1 + 1 + 1) (eA u1) rfl rfl ET z4 s3.out (infoEA u1) (sizeZA u1) (oneEA u1) ?_))
  refine (R1.out _).mono ?_
  rintro e w2 ⟨rfl, hb⟩
  have G := hid (F.out.call hb)
  have cl := G.out.l 1 (.int .u64 0) rfl
  have cf := G.out.lf 1
  have F2 : Hid (Fr w ((w2.setCell ⟨w.heap.size + 1 + 1, 1, none⟩ (.int .u64 (l1 : Int))).setRow (w.heap.size + 1 + 1 + 1) (eA u2)) (e4 xa xb xc xd) (eA y) (e4 l0 l1 0 0) (eA u2)) := hid (G.out.store 1 _ _)
  have s3 : Hid ((w2.setCell ⟨w.heap.size + 1 + 1, 1, none⟩ (.int .u64 (l1 : Int))).heap[w.heap.size + 1 + 1 + 1]? = some (.cells (eA u1) ET (0, 0))) := hid ((heap_setCell_other _ _ _ _ (by simp <;> omega)).trans G.out.2.2.2.1)
  clear hb F c0 Y1 U1
  have F := F2
  clear F2
  have c0 := F.out.x 2 (.int .u64 (xc : Int)) rfl
  have Y1 := hid F.out.2.1
  have U1 := hid F.out.2.2.2.1
  go_wp2_with (first | (with_reducible refine wpList_load_row rfl ET (.tmp 3) rfl (w.heap.size + 1) rfl ET (eA y) (0, 0) _ Y1.out Try.underlying33 rfl (infoEA y) ?_) | (with_reducible refine wpList_load_row rfl ET (.tmp 5) rfl (w.heap.size + 1 + 1 + 1) rfl ET (eA u2) (0, 0) _ U1.out Try.underlying33 rfl (infoEA u2) ?_) | (with_reducible refine wpList_store_row rfl ET (.tmp 5) _ rfl (w.heap.size + 1 + 1 + 1) (eA u2) rfl rfl ET (eA u1) s3.out (infoEA u2) (sizeEA u1 u2) (oneEA u2) ?_))
  refine (R2.out _).mono ?_
  rintro e w3 ⟨rfl, hb⟩
  have G := hid (F.out.call hb)
  have cl := G.out.l 2 (.int .u64 0) rfl
  have cf := G.out.lf 2
  have F2 : Hid (Fr w ((w3.setCell ⟨w.heap.size + 1 + 1, 2, none⟩ (.int .u64 (l2 : Int))).setRow (w.heap.size + 1 + 1 + 1) (eA u3)) (e4 xa xb xc xd) (eA y) (e4 l0 l1 l2 0) (eA u3)) := hid (G.out.store 2 _ _)
  have s3 : Hid ((w3.setCell ⟨w.heap.size + 1 + 1, 2, none⟩ (.int .u64 (l2 : Int))).heap[w.heap.size + 1 + 1 + 1]? = some (.cells (eA u2) ET (0, 0))) := hid ((heap_setCell_other _ _ _ _ (by simp <;> omega)).trans G.out.2.2.2.1)
  clear hb F c0 Y1 U1
  have F := F2
  clear F2
  have c0 := F.out.x 3 (.int .u64 (xd : Int)) rfl
  have Y1 := hid F.out.2.1
  have U1 := hid F.out.2.2.2.1
  go_wp2_with (first | (with_reducible refine wpList_load_row rfl ET (.tmp 3) rfl (w.heap.size + 1) rfl ET (eA y) (0, 0) _ Y1.out Try.underlying33 rfl (infoEA y) ?_) | (with_reducible refine wpList_load_row rfl ET (.tmp 5) rfl (w.heap.size + 1 + 1 + 1) rfl ET (eA u3) (0, 0) _ U1.out Try.underlying33 rfl (infoEA u3) ?_) | (with_reducible refine wpList_store_row rfl ET (.tmp 5) _ rfl (w.heap.size + 1 + 1 + 1) (eA u3) rfl rfl ET (eA u2) s3.out (infoEA u3) (sizeEA u2 u3) (oneEA u3) ?_))
  refine (R3.out _).mono ?_
  rintro e w4 ⟨rfl, hb⟩
  have G := hid (F.out.call hb)
  have cl := G.out.l 3 (.int .u64 0) rfl
  have cf := G.out.lf 3
  have F2 : Hid (Fr w ((w4.setCell ⟨w.heap.size + 1 + 1, 3, none⟩ (.int .u64 (l3 : Int))).setRow (w.heap.size + 1 + 1 + 1) (eA u4)) (e4 xa xb xc xd) (eA y) (e4 l0 l1 l2 l3) (eA u4)) := hid (G.out.store 3 _ _)
  have s3 : Hid ((w4.setCell ⟨w.heap.size + 1 + 1, 3, none⟩ (.int .u64 (l3 : Int))).heap[w.heap.size + 1 + 1 + 1]? = some (.cells (eA u3) ET (0, 0))) := hid ((heap_setCell_other _ _ _ _ (by simp <;> omega)).trans G.out.2.2.2.1)
  clear hb F c0 Y1 U1
  have F := F2
  clear F2
  go_wp2_with ((with_reducible refine wpList_store_row rfl ET (.tmp 5) _ rfl (w.heap.size + 1 + 1 + 1) (eA u4) rfl rfl ET (eA u3) s3.out (infoEA u4) (sizeEA u3 u4) (oneEA u4) ?_))
  have HI1 := hid (infoE4 l0 l1 l2 l3); have HO1 := hid (e4_one l0 l1 l2 l3)
  obtain ⟨H0, H1, H2, H3, HB, HZ⟩ := F.out
  refine wp_region_any (by kernel_rfl) ?_
  try (change wpAny _ _ _ _ _ _ _ (World.drew _))
  refine wpAny_ready (rs := [0, 1]) (by kernel_rfl) (by simp) ?_
  refine AllReady.cons rfl (fun K hK => ?_) (AllReady.cons rfl (fun K hK => ?_) (AllReady.nil))
  · refine step_load_row rfl ET (.tmp 4) rfl (w.heap.size + 1 + 1) rfl ET (e4 l0 l1 l2 l3) (0, 0) _ H2 Try.underlying33 rfl (infoE4 l0 l1 l2 l3) ?_
    refine hK _ _ ?_
    clear hK K
    refine wpAny_ready (rs := [1, 2]) (by kernel_rfl) (by simp) ?_
    refine AllReady.cons rfl (fun K hK => ?_) (AllReady.cons rfl (fun K hK => ?_) (AllReady.nil))
    · refine step_load_row rfl ET (.tmp 5) rfl (w.heap.size + 1 + 1 + 1) rfl ET (eA u4) (0, 0) _ H3 Try.underlying33 rfl (infoEA u4) ?_
      refine hK _ _ ?_
      clear hK K
      refine wpAny_ready (rs := [2]) (by kernel_rfl) (by simp) ?_
      refine AllReady.cons rfl (fun K hK => ?_) (AllReady.nil)
      refine step_store_same rfl ET (.tmp 4) (.tmp 42) rfl (w.heap.size + 1 + 1) (e4 l0 l1 l2 l3) rfl rfl ET H2 (infoE4 l0 l1 l2 l3) (e4_one l0 l1 l2 l3) ?_
      refine hK _ _ ?_
      clear hK K
      refine wpAny_ready (rs := [3]) (by kernel_rfl) (by simp) ?_
      refine AllReady.cons rfl (fun K hK => ?_) (AllReady.nil)
      refine step_store_same rfl ET (.tmp 5) (.tmp 43) rfl (w.heap.size + 1 + 1 + 1) (eA u4) rfl rfl ET H3 (infoEA u4) (oneEA u4) ?_
      refine hK _ _ ?_
      clear hK K
      refine wpAny_done (by kernel_rfl) ?_ _
      go_wp2
      exact bodyPost_ret (v := .tuple #[.agg (e4 l0 l1 l2 l3), .agg (eA u4)]) (results_two_e rfl _ _ ⟨w.heap.size + 1 + 1, 0, none⟩ ⟨w.heap.size + 1 + 1 + 1, 0, none⟩ _ _ rfl rfl (load_e H2) (run_loadVar_row _ _ ET ET _ (0, 0) _ H3 Try.underlying33 rfl (infoEA u4))) rfl ⟨by rw [HL.out, HU.out], HB.drew⟩
    · refine step_store_same rfl ET (.tmp 4) (.tmp 42) rfl (w.heap.size + 1 + 1) (e4 l0 l1 l2 l3) rfl rfl ET H2 (infoE4 l0 l1 l2 l3) (e4_one l0 l1 l2 l3) ?_
      refine hK _ _ ?_
      clear hK K
      refine wpAny_ready (rs := [1]) (by kernel_rfl) (by simp) ?_
      refine AllReady.cons rfl (fun K hK => ?_) (AllReady.nil)
      refine step_load_row rfl ET (.tmp 5) rfl (w.heap.size + 1 + 1 + 1) rfl ET (eA u4) (0, 0) _ H3 Try.underlying33 rfl (infoEA u4) ?_
      refine hK _ _ ?_
      clear hK K
      refine wpAny_ready (rs := [3]) (by kernel_rfl) (by simp) ?_
      refine AllReady.cons rfl (fun K hK => ?_) (AllReady.nil)
      refine step_store_same rfl ET (.tmp 5) (.tmp 43) rfl (w.heap.size + 1 + 1 + 1) (eA u4) rfl rfl ET H3 (infoEA u4) (oneEA u4) ?_
      refine hK _ _ ?_
      clear hK K
      refine wpAny_done (by kernel_rfl) ?_ _
      go_wp2
      exact bodyPost_ret (v := .tuple #[.agg (e4 l0 l1 l2 l3), .agg (eA u4)]) (results_two_e rfl _ _ ⟨w.heap.size + 1 + 1, 0, none⟩ ⟨w.heap.size + 1 + 1 + 1, 0, none⟩ _ _ rfl rfl (load_e H2) (run_loadVar_row _ _ ET ET _ (0, 0) _ H3 Try.underlying33 rfl (infoEA u4))) rfl ⟨by rw [HL.out, HU.out], HB.drew⟩
  · refine step_load_row rfl ET (.tmp 5) rfl (w.heap.size + 1 + 1 + 1) rfl ET (eA u4) (0, 0) _ H3 Try.underlying33 rfl (infoEA u4) ?_
    refine hK _ _ ?_
    clear hK K
    refine wpAny_ready (rs := [0]) (by kernel_rfl) (by simp) ?_
    refine AllReady.cons rfl (fun K hK => ?_) (AllReady.nil)
    refine step_load_row rfl ET (.tmp 4) rfl (w.heap.size + 1 + 1) rfl ET (e4 l0 l1 l2 l3) (0, 0) _ H2 Try.underlying33 rfl (infoE4 l0 l1 l2 l3) ?_
    refine hK _ _ ?_
    clear hK K
    refine wpAny_ready (rs := [2]) (by kernel_rfl) (by simp) ?_
    refine AllReady.cons rfl (fun K hK => ?_) (AllReady.nil)
    refine step_store_same rfl ET (.tmp 4) (.tmp 42) rfl (w.heap.size + 1 + 1) (e4 l0 l1 l2 l3) rfl rfl ET H2 (infoE4 l0 l1 l2 l3) (e4_one l0 l1 l2 l3) ?_
    refine hK _ _ ?_
    clear hK K
    refine wpAny_ready (rs := [3]) (by kernel_rfl) (by simp) ?_
    refine AllReady.cons rfl (fun K hK => ?_) (AllReady.nil)
    refine step_store_same rfl ET (.tmp 5) (.tmp 43) rfl (w.heap.size + 1 + 1 + 1) (eA u4) rfl rfl ET H3 (infoEA u4) (oneEA u4) ?_
    refine hK _ _ ?_
    clear hK K
    refine wpAny_done (by kernel_rfl) ?_ _
    go_wp2
    exact bodyPost_ret (v := .tuple #[.agg (e4 l0 l1 l2 l3), .agg (eA u4)]) (results_two_e rfl _ _ ⟨w.heap.size + 1 + 1, 0, none⟩ ⟨w.heap.size + 1 + 1 + 1, 0, none⟩ _ _ rfl rfl (load_e H2) (run_loadVar_row _ _ ET ET _ (0, 0) _ H3 Try.underlying33 rfl (infoEA u4))) rfl ⟨by rw [HL.out, HU.out], HB.drew⟩
end Go.Proofs.Ytodimbmjbjioaaa
