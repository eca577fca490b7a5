/-
  Squares.
-/
import Derived.Test.YtealegfmmeklcaaFld5
namespace Go.Proofs.Ytealegfmmeklcaa
open Go.RowKit
set_option linter.unusedVariables false
set_option linter.unusedSimpArgs false

theorem Square_e (x : Nat) (w : World) (hx : x < pp) :
    Calls Try.prog 55 #[.agg (eA x)] w fun e w' => e = .returned (.agg (eA (x * x % pp))) ∧ Below w.heap.size w w' := by
  have C1 := hid (fun W => Mul_e x x W hx hx)
  have F := hid (Fo.start w (eA x))
  have X1 := hid F.out.1
  clear hx
  go_enter Try.func55, Try.ntmps55
  go_wp2_with ((with_reducible refine wpList_load_row rfl ET (.tmp 1) rfl (w.heap.size) rfl ET (eA x) (0, 0) _ X1.out Try.underlying26 rfl (infoEA _) ?_))
  refine (C1.out _).mono ?_
  rintro e w1 ⟨rfl, hb⟩
  have F1 := hid (F.out.call hb)
  clear hb F
  clear X1
  have Z := hid F1.out.2.1
  go_wp2_with (with_reducible refine wpList_store_row rfl ET (.tmp 2) _ rfl (w.heap.size + 1) (eA (x * x % pp)) rfl rfl ET z4 Z.out (infoEA _) (sizeZA _) (oneEA _) ?_)
  refine bodyPost_ret (v := .agg (eA (x * x % pp))) (results_cell_row rfl _ _ (w.heap.size + 1) ET _ (0, 0) _ rfl (setRow_heap _ _ _ _ _ _ Z.out) Try.underlying26 rfl (infoEA _)) rfl ⟨rfl, ?_⟩
  exact belowRow F1.out.2.2.1 (by omega) _
end Go.Proofs.Ytealegfmmeklcaa
