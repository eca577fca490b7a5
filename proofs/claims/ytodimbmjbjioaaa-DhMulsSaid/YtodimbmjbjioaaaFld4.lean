/-
  Package field: a product folded; sums, differences, products and squares.
-/
import Derived.Test.YtodimbmjbjioaaaFld3
namespace Go.Proofs.Ytodimbmjbjioaaa
open Go.RowKit
set_option linter.unusedVariables false
set_option linter.unusedSimpArgs false

/-- Three blocks: what came in, and what goes out. -/
def Fs (w wr : World) (X Y : Array Value) : Prop :=
  wr.heap[w.heap.size]? = some (.cells X ET (0, 0)) ∧ wr.heap[w.heap.size + 1]? = some (.cells Y ET (0, 0)) ∧ wr.heap[w.heap.size + 1 + 1]? = some (.cells z4 ET (0, 0)) ∧ Below w.heap.size w wr ∧ w.heap.size + 1 + 1 < wr.heap.size
theorem Fs.call {w wr w' : World} {X Y : Array Value} (h : Fs w wr X Y) (hb : Below wr.heap.size wr w') : Fs w w' X Y := by
  obtain ⟨h0, h1, h2, h4, h5⟩ := h
  exact ⟨block_below hb (by omega) h0, block_below hb (by omega) h1, block_below hb (by omega) h2, h4.trans (hb.mono (by omega)), by have := hb.size; omega⟩
theorem Fs.start (w : World) (X Y : Array Value) : Fs w (((w.alloc (.cells X ET)).alloc (.cells Y ET)).alloc (.cells z4 ET)) X Y :=
  ⟨blkA (blkA (blkN rfl X ET) _) _, blkA (blkN (by simp) Y ET) _, blkN (by simp) z4 ET, (((Below.refl _ _).alloc (Nat.le_refl _) _).alloc (by simp) _).alloc (by simp; omega) _, by simp⟩
/-- Two blocks: what came in, and what goes out. -/
def Fo (w wr : World) (X : Array Value) : Prop :=
  wr.heap[w.heap.size]? = some (.cells X ET (0, 0)) ∧ wr.heap[w.heap.size + 1]? = some (.cells z4 ET (0, 0)) ∧ Below w.heap.size w wr ∧ w.heap.size + 1 < wr.heap.size
theorem Fo.call {w wr w' : World} {X : Array Value} (h : Fo w wr X) (hb : Below wr.heap.size wr w') : Fo w w' X := by
  obtain ⟨h0, h1, h4, h5⟩ := h
  exact ⟨block_below hb (by omega) h0, block_below hb (by omega) h1, h4.trans (hb.mono (by omega)), by have := hb.size; omega⟩
theorem Fo.start (w : World) (X : Array Value) : Fo w ((w.alloc (.cells X ET)).alloc (.cells z4 ET)) X :=
  ⟨blkA (blkN rfl X ET) _, blkN (by simp) z4 ET, ((Below.refl _ _).alloc (Nat.le_refl _) _).alloc (by simp) _, by simp⟩

theorem pp_big : 2 * pp < 115792089237316195423570985008687907853269984665640564039457584007913129639936 := by decide +kernel
theorem eA_small (n : Nat) (h : n < 18446744073709551616) : eA n = e4 n 0 0 0 := by have h := eA_of n 0 0 0 h (by omega) (by omega) (by omega); simpa using h

theorem fold_num {l u t : Nat} (h : t = 38 * u + l) : (t % 57896044618658097711785492504343953926634992332820282019728792003956564819968 + 19 * (t / 57896044618658097711785492504343953926634992332820282019728792003956564819968)) % pp = (l + 115792089237316195423570985008687907853269984665640564039457584007913129639936 * u) % pp := by
  rw [pp_def]
  omega

theorem Add_e (x y : Nat) (w : World) (hx : x < pp) (hy : y < pp) :
    Calls Try.prog 44 #[.agg (eA x), .agg (eA y)] w fun e w' => e = .returned (.agg (eA ((x + y) % pp))) ∧ Below w.heap.size w w' := by
  have hp := pp_big
  have C1 := hid (fun W => sum_e x y W (by omega))
  have C2 := hid (fun W => below_e (x + y) W (by omega))
  have F := hid (Fs.start w (eA x) (eA y))
  have X1 := hid F.out.1
  have Y1 := hid F.out.2.1
  clear hx hy hp
  go_enter Try.func44, Try.ntmps44
  go_wp2_with (first | (with_reducible refine wpList_load_row rfl ET (.tmp 2) rfl (w.heap.size) rfl ET (eA x) (0, 0) _ X1.out Try.underlying33 rfl (infoEA _) ?_) | (with_reducible refine wpList_load_row rfl ET (.tmp 3) rfl (w.heap.size + 1) rfl ET (eA y) (0, 0) _ Y1.out Try.underlying33 rfl (infoEA _) ?_))
  refine (C1.out _).mono ?_
  rintro e w1 ⟨rfl, hb⟩
  have F1 := hid (F.out.call hb)
  clear hb F
  clear X1 Y1
  go_wp2_with fail
  refine (C2.out _).mono ?_
  rintro e w2 ⟨rfl, hb⟩
  have F2 := hid (F1.out.call hb)
  clear hb F1
  have Z := hid F2.out.2.2.1
  go_wp2_with (with_reducible refine wpList_store_row rfl ET (.tmp 4) _ rfl (w.heap.size + 1 + 1) (eA ((x + y) % pp)) rfl rfl ET z4 Z.out (infoEA _) (sizeZA _) (oneEA _) ?_)
  refine bodyPost_ret (v := .agg (eA ((x + y) % pp))) (results_cell_row rfl _ _ (w.heap.size + 1 + 1) ET _ (0, 0) _ rfl (setRow_heap _ _ _ _ _ _ Z.out) Try.underlying33 rfl (infoEA _)) rfl ⟨rfl, ?_⟩
  exact belowRow F2.out.2.2.2.1 (by omega) _

set_option maxHeartbeats 400000 in
theorem Sub_e (x y : Nat) (w : World) (hx : x < pp) (hy : y < pp) :
    Calls Try.prog 45 #[.agg (eA x), .agg (eA y)] w fun e w' => e = .returned (.agg (eA ((x + (pp - y)) % pp))) ∧ Below w.heap.size w w' := by
  have hp := pp_big
  have C1 := hid (fun W => missing_e y W (by omega))
  have C2 := hid (fun W => sum_e x (pp - y) W (by omega))
  have C3 := hid (fun W => below_e (x + (pp - y)) W (by omega))
  have F := hid (Fs.start w (eA x) (eA y))
  clear hx hy hp
  go_enter Try.func45, Try.ntmps45
  go_wp2
  generalize hw0 : ((w.alloc (.cells (eA x) ET)).alloc (.cells (eA y) ET)).alloc (.cells z4 ET) = w0 at F ⊢
  clear hw0
  refine wp_region_grown_tail 5 (by kernel_rfl) (by kernel_rfl) ?_
  have D1 : Hid (∀ w1, Below w0.heap.size w0 w1 → Calls Try.prog 54 #[.agg (eA y)] w1 fun e w2 => e = .returned (.agg (eA (pp - y))) ∧ Below w0.heap.size w0 w2) := hid fun w1 hw1 =>
    (C1.out w1).mono fun e w2 h => ⟨h.1, hw1.trans (h.2.mono hw1.size)⟩
  have D2 : Hid (∀ w1, Below w0.heap.size w0 w1 → Calls Try.prog 47 #[.agg (eA x), .agg (eA (pp - y))] w1 fun e w2 => e = .returned (.agg (eA (x + (pp - y)))) ∧ Below w0.heap.size w0 w2) := hid fun w1 hw1 =>
    (C2.out w1).mono fun e w2 h => ⟨h.1, hw1.trans (h.2.mono hw1.size)⟩
  have D3 : Hid (∀ w1, Below w0.heap.size w0 w1 → Calls Try.prog 30 #[.agg (eA (x + (pp - y)))] w1 fun e w2 => e = .returned (.agg (eA ((x + (pp - y)) % pp))) ∧ Below w0.heap.size w0 w2) := hid fun w1 hw1 =>
    (C3.out w1).mono fun e w2 h => ⟨h.1, hw1.trans (h.2.mono hw1.size)⟩
  refine quiet_row rfl ET (.tmp 2) rfl w.heap.size rfl ET (eA x) (0, 0) _ (fun w' h => (F.out.call h).1) Try.underlying33 rfl (infoEA _) ?_
  refine quiet_row rfl ET (.tmp 3) rfl (w.heap.size + 1) rfl ET (eA y) (0, 0) _ (fun w' h => (F.out.call h).2.1) Try.underlying33 rfl (infoEA _) ?_
  refine wpQuiet_step (fun K hK => ?_)
  go_simp
  refine ⟨_, D1.out, hK _ ?_⟩
  clear hK K
  refine wpQuiet_step (fun K hK => ?_)
  go_simp
  refine ⟨_, D2.out, hK _ ?_⟩
  clear hK K
  refine wpQuiet_step (fun K hK => ?_)
  go_simp
  refine ⟨_, D3.out, hK _ ?_⟩
  clear hK K
  refine wpQuiet_nil ?_
  intro w2 hb
  have F2 := hid (F.out.call hb)
  clear hb F
  simp only [List.drop_succ_cons, List.drop_zero]
  have Z := hid F2.out.2.2.1
  go_wp2_with (with_reducible refine wpList_store_row rfl ET (.tmp 4) _ rfl (w.heap.size + 1 + 1) (eA ((x + (pp - y)) % pp)) rfl rfl ET z4 Z.out (infoEA _) (sizeZA _) (oneEA _) ?_)
  refine bodyPost_ret (v := .agg (eA ((x + (pp - y)) % pp))) (results_cell_row rfl _ _ (w.heap.size + 1 + 1) ET _ (0, 0) _ rfl (setRow_heap _ _ _ _ _ _ Z.out) Try.underlying33 rfl (infoEA _)) rfl ⟨rfl, ?_⟩
  exact belowRow F2.out.2.2.2.1 (by omega) _

end Go.Proofs.Ytodimbmjbjioaaa
