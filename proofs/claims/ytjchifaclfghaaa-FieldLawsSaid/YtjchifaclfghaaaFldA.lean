/-
  Package field: what makes 1.
-/
import Derived.Test.YtjchifaclfghaaaFld9
import Derived.Deep.RegionHeld3
namespace Go.Proofs.Ytjchifaclfghaaa
open Go.RowKit
set_option linter.unusedVariables false
set_option linter.unusedSimpArgs false

section
variable {P : Program} {ops : Array Oper} {o : Oper} {a : Act} {w : World} {K : Act → World → Prop} {Q : Exit → Act → World → Prop} {E : Prop}
/-- A whole row stored, as a step of a region that draws its order. -/
theorem step_store_row (hgd : o.guard = none) (ty : TypeId) (x y : Operand) (ho : o.op = .store ty x y)
    (g : Nat) (cs : Array Value) (hx : a.eval x = .pointer (some ⟨g, 0, none⟩)) (hy : a.eval y = .agg cs) (t : TypeId) (old : Array Value) (hg : w.heap[g]? = some (.cells old t (0, 0)))
    (hi : (P.info? ty).map (·.size) = some cs.size) (hold : old.size = cs.size) (h1 : cs.all (·.oneCell') = true)
    (h : K (a.put o.dst undef) (w.setRow g cs)) : if Region.wanted o (yielded ops a.tmps) = true then Oper.wp P o a w K Q else E := by
  rw [if_pos (by simp [Region.wanted, hgd])]
  exact wp_store_row ty x y ho g cs hx hy t old hg hi hold h1 h
end
theorem store_run {W : World} {g n : Nat} (h : W.heap[g]? = some (.cells (eA n) ET (0, 0))) (m : Nat) : (storeCells ⟨g, 0, none⟩ (eA m).toList).run Try.prog W = .ok () (W.setRow g (eA m)) := by
  have h1 := run_storeCells_from (P := Try.prog) g ET (eA m).toList 0 (eA n) W h rfl (fun v hv => (Array.all_eq_true_iff_forall_mem.1 (oneEA m)) v (by simpa using hv))
  simpa using h1
/-- Two blocks: what came in, and a number. -/
def So (w wr : World) (X : Array Value) : Prop :=
  wr.heap[w.heap.size]? = some (.cells X ET (0, 0)) ∧ (∃ n, wr.heap[w.heap.size + 1]? = some (.cells (eA n) ET (0, 0))) ∧ Below w.heap.size w wr ∧ w.heap.size + 1 < wr.heap.size
theorem So.call {w wr w' : World} {X : Array Value} (h : So w wr X) (hb : Below wr.heap.size wr w') : So w w' X := by
  obtain ⟨h0, ⟨n, h1⟩, h4, h5⟩ := h
  exact ⟨block_below hb (by omega) h0, ⟨n, block_below hb (by omega) h1⟩, h4.trans (hb.mono (by omega)), by have := hb.size; omega⟩
theorem So.set {w wr : World} {X : Array Value} (h : So w wr X) (n : Nat) : So w (wr.setRow (w.heap.size + 1) (eA n)) X := by
  obtain ⟨h0, ⟨m, h1⟩, h4, h5⟩ := h
  exact ⟨(setRow_other _ _ _ _ (by omega)).trans h0, ⟨n, setRow_heap _ _ _ _ _ _ h1⟩, belowRow h4 (by omega) _, by rw [size_setRow]; exact h5⟩
theorem So.start (w : World) (X : Array Value) : So w ((w.alloc (.cells X ET)).alloc (.cells z4 ET)) X :=
  ⟨blkA (blkN rfl X ET) _, ⟨0, blkN (by simp) z4 ET⟩, ((Below.refl _ _).alloc (Nat.le_refl _) _).alloc (by simp) _, by simp⟩
theorem So.drew {w wr : World} {X : Array Value} (h : So w wr X) : So w wr.drew X := ⟨h.1, h.2.1, h.2.2.1.drew, h.2.2.2⟩
/-- The words of what came in, one by one. -/
theorem So.cells {w wr : World} {a b c d : Nat} (h : So w wr (e4 a b c d)) : wr.cell? ⟨w.heap.size, 0, none⟩ = some (.int .u64 (a : Int)) ∧ wr.cell? ⟨w.heap.size, 1, none⟩ = some (.int .u64 (b : Int)) ∧ wr.cell? ⟨w.heap.size, 2, none⟩ = some (.int .u64 (c : Int)) ∧ wr.cell? ⟨w.heap.size, 3, none⟩ = some (.int .u64 (d : Int)) ∧ So w wr (e4 a b c d) :=
  ⟨cell_of h.1 0 _ rfl, cell_of h.1 1 _ rfl, cell_of h.1 2 _ rfl, cell_of h.1 3 _ rfl, h⟩
theorem exp_inv : leN (expB 235 127) = pp - 2 := by decide +kernel
theorem exp_root : leN (expB 254 15) = (pp + 3) / 8 := by decide +kernel

set_option maxHeartbeats 1000000 in
theorem Inv_e (x : Nat) (w : World) (hx : x < pp) :
    Calls Try.prog 27 #[.agg (eA x)] w fun e w' => e = .returned (.agg (eA (x ^ (pp - 2) % pp))) ∧ Below w.heap.size w w' := by
  obtain ⟨a, b, c, d, ha, hb, hc, hd, hxv, ex⟩ := words x (pp_lt hx)
  have HE : Hid (∀ W, So w W (e4 a b c d) → Calls Try.prog 47 #[.int .u8 235, .int .u8 127] W fun e W' => ∃ A, e = .returned (.slice A 32 32) ∧ So w W' (e4 a b c d) ∧ Sq W' W'.heap.size A 32 (bvs (expB 235 127))) := hid fun W hS => by
    refine (exponent_e 235 127 W).mono ?_
    rintro e W' ⟨A, rfl, hq, hb⟩
    exact ⟨A, rfl, hS.call hb, hq⟩
  have HP : Hid (∀ W A, So w W (e4 a b c d) → Sq W W.heap.size A 32 (bvs (expB 235 127)) → Calls Try.prog 25 #[.agg (e4 a b c d), .slice A 32 32] W fun e W' => e = .returned (.agg (eA (x ^ (pp - 2) % pp))) ∧ So w W' (e4 a b c d)) := hid fun W A hS hq => by
    have h := Pow_e x A (expB 235 127) 32 W hx hq (by rw [expB_length]; omega)
    rw [ex] at h
    refine h.mono ?_
    rw [exp_inv]
    rintro e W' ⟨rfl, hb⟩
    exact ⟨rfl, hS.call hb⟩
  have hS0 := (So.start w (e4 a b c d)).drew
  obtain ⟨V, hV⟩ : ∃ V, V = x ^ (pp - 2) % pp := ⟨_, rfl⟩
  rw [← hV] at HP ⊢
  rw [ex]
  clear hV ha hb hc hd hxv ex hx
  go_enter Try.func27, Try.ntmps27
  go_wp2_with fail
  go_region_held3 (fun w' => w'.cell? ⟨w.heap.size, 0, none⟩ = some (.int .u64 (a : Int)) ∧ w'.cell? ⟨w.heap.size, 1, none⟩ = some (.int .u64 (b : Int)) ∧ w'.cell? ⟨w.heap.size, 2, none⟩ = some (.int .u64 (c : Int)) ∧ w'.cell? ⟨w.heap.size, 3, none⟩ = some (.int .u64 (d : Int)) ∧ So w w' (e4 a b c d))
    (first
      | exact hs3.cells
      | exact hs2.cells
      | exact hs1.cells
      | exact hS0.cells)
    (first
      | (go_at_call 47; refine (HE.out _ hS0).mono ?_; rintro e w1 ⟨A1, rfl, hs1, hq1⟩)
      | (go_at_call 25; refine (HP.out _ _ hs1 hq1).mono ?_; rintro e w2 ⟨rfl, hs2⟩; obtain ⟨n2, hz2⟩ := hs2.2.1; have hst := store_run hz2 V; have hs3 := hs2.set V))
  go_wp2
  refine bodyPost_ret (v := .agg (eA V)) (results_cell_row rfl _ _ (w.heap.size + 1) ET _ (0, 0) _ rfl (setRow_heap _ _ _ _ _ _ hz2) Try.underlying26 rfl (infoEA _)) rfl ⟨rfl, hs3.2.2.1⟩
end Go.Proofs.Ytjchifaclfghaaa
