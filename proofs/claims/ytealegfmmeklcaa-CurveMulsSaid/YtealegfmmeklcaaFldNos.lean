/-
  A number below 0.
  Which numbers are odd.
  Which numbers are the same.
-/
import Derived.Test.YtealegfmmeklcaaFld5
namespace Go.Proofs.Ytealegfmmeklcaa
section
open Go.RowKit
set_option linter.unusedVariables false
set_option linter.unusedSimpArgs false

theorem Neg_e (x : Nat) (w : World) (hx : x < pp) :
    Calls Try.prog 38 #[.agg (eA x)] w fun e w' => e = .returned (.agg (eA ((pp - x) % pp))) ∧ Below w.heap.size w w' := by
  have hp := pp_big
  have C1 := hid (fun W => missing_e x W (by omega))
  have C2 := hid (fun W => below_e (pp - x) W (by have := pp_pos; omega))
  have F := hid (Fo.start w (eA x))
  have X1 := hid F.out.1
  clear hx hp
  go_enter Try.func38, Try.ntmps38
  go_wp2_with ((with_reducible refine wpList_load_row rfl ET (.tmp 1) rfl (w.heap.size) rfl ET (eA x) (0, 0) _ X1.out Try.underlying26 rfl (infoEA _) ?_))
  refine (C1.out _).mono ?_
  rintro e w1 ⟨rfl, hb⟩
  have F1 := hid (F.out.call hb)
  clear hb F
  clear X1
  go_wp2_with fail
  refine (C2.out _).mono ?_
  rintro e w2 ⟨rfl, hb⟩
  have F2 := hid (F1.out.call hb)
  clear hb F1
  have Z := hid F2.out.2.1
  go_wp2_with (with_reducible refine wpList_store_row rfl ET (.tmp 2) _ rfl (w.heap.size + 1) (eA ((pp - x) % pp)) rfl rfl ET z4 Z.out (infoEA _) (sizeZA _) (oneEA _) ?_)
  refine bodyPost_ret (v := .agg (eA ((pp - x) % pp))) (results_cell_row rfl _ _ (w.heap.size + 1) ET _ (0, 0) _ rfl (setRow_heap _ _ _ _ _ _ Z.out) Try.underlying26 rfl (infoEA _)) rfl ⟨rfl, ?_⟩
  exact belowRow F2.out.2.2.1 (by omega) _
end

section
open Go.RowKit
set_option linter.unusedVariables false
set_option linter.unusedSimpArgs false

theorem Odd_e (x : Nat) (w : World) (hx : x < pp) :
    Calls Try.prog 54 #[.agg (eA x)] w fun e w' => e = .returned (.bool (decide (x % 2 = 1))) ∧ Below w.heap.size w w' := by
  obtain ⟨a, b, c, d, ha, hb, hc, hd, hxv, ex⟩ := words x (pp_lt hx)
  rw [ex]
  have h1 := and_one a ha
  have h2 : a % 2 = x % 2 := by omega
  rw [h2] at h1
  obtain ⟨r, hr⟩ : ∃ r, r = x % 2 := ⟨_, rfl⟩
  rw [← hr] at h1 ⊢
  have h3 : ((r : Int) == 1) = decide (r = 1) := by by_cases h : r = 1 <;> simp [h]; omega
  clear hx h2 hr hxv ha hb hc hd ex
  go_enter Try.func54, Try.ntmps54
  go_wp2
  go_ret
  exact ⟨rfl, (Below.refl _ _).alloc (Nat.le_refl _) _⟩
end

section
open Go.RowKit
set_option linter.unusedVariables false
set_option linter.unusedSimpArgs false

theorem Same_e (x y : Nat) (w : World) (hx : x < pp) (hy : y < pp) :
    Calls Try.prog 41 #[.agg (eA x), .agg (eA y)] w fun e w' => e = .returned (.bool (decide (x = y))) ∧ Below w.heap.size w w' := by
  obtain ⟨a, b, c, d, ha, hb, hc, hd, hxv, ex⟩ := words x (pp_lt hx)
  obtain ⟨a', b', c', d', ha', hb', hc', hd', hyv, ey⟩ := words y (pp_lt hy)
  rw [ex, ey]
  clear hx hy
  go_enter Try.func41, Try.ntmps41
  go_wp2
  all_goals go_ret
  all_goals refine ⟨?_, ((Below.refl _ _).alloc (Nat.le_refl _) _).alloc (by simp) _⟩
  all_goals first
    | (rw [decide_eq_true (by omega)]; rfl)
    | (rw [decide_eq_false (by omega)]; rfl)
end
end Go.Proofs.Ytealegfmmeklcaa
